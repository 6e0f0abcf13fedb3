package lerp

import (
	"fmt"
	"math"
	"math/big"
	"testing"

	"rastrum/api"
)

const (
	farthest = 1 << 40 // the greatest p and q, written out
	parts    = 1 << 62 // the greatest d
	place    = 1 << 28 // the greatest X and Y of a vertex
	border   = 1 << 22 // the greatest pixel
	deepest  = 1<<24 - 1
)

// look is what stands somewhere: a depth and a color.
type look struct {
	z int
	c api.Color
}

// call is one of the two calls that tell what stands at a pixel.
type call struct {
	name  string
	tell  func(a, b api.Win, x, y int) (int, api.Color)
	share func(a, b api.Win, x, y int) *big.Rat
}

// calls are both, each with which share of the way it must go by.
func calls() []call {
	return []call{{"Along", Along, shareAlong}, {"Across", Across, shareAcross}}
}

// at is what the call answers of the line from a to b at the pixel x, y.
func (c call) at(a, b api.Win, x, y int) look {
	z, color := c.tell(a, b, x, y)
	return look{z, color}
}

// chance is a row of numbers that look like chance and are the same at each run.
type chance uint64

// from is the next number from least to greatest.
func (c *chance) from(least, greatest int) int {
	*c ^= *c << 13
	*c ^= *c >> 7
	*c ^= *c << 17
	return least + int(*c>>1)%(greatest-least+1)
}

// win is a vertex that may be, at most so far from the middle by X and by Y.
func (c *chance) win(far int) api.Win {
	w := api.Win{X: c.from(-far, far), Y: c.from(-far, far), Z: c.from(0, []int{10, 1000, deepest}[c.from(0, 2)])}
	for i := range w.C {
		w.C[i] = c.from(0, 255)
	}
	return w
}

// line is one from anywhere to anywhere, of any length.
func (c *chance) line() (a, b api.Win) {
	far := []int{2, 40, 700, 5000, 1 << 20, place}[c.from(0, 5)]
	a, b = c.win(far), c.win(far)
	switch c.from(0, 9) {
	case 0:
		b.X = a.X
	case 1:
		b.Y = a.Y
	case 2:
		b.X, b.Y = a.Y, a.X
	}
	return a, b
}

// near is a pixel beside the line from a to b, ahead of it, behind it, or further off.
func (c *chance) near(a, b api.Win) (x, y int) {
	at, off := c.from(-60, 316), c.from(0, 5)
	x = (a.X + (b.X-a.X)/256*at) / 256
	y = (a.Y + (b.Y-a.Y)/256*at) / 256
	return kept(x + c.from(-off, off)), kept(y + c.from(-off, off))
}

// kept is a pixel, brought among those that may be.
func kept(n int) int {
	return max(-border, min(n, border))
}

func integer(n int) *big.Int {
	return big.NewInt(int64(n))
}

// slowMid is what Mid must answer, word by word, by numbers without an end.
func slowMid(p, q, n, d int) int {
	if d < 1 {
		return p
	}
	part, whole := integer(n), integer(d)
	if part.Sign() < 0 {
		part = integer(0)
	}
	if part.Cmp(whole) > 0 {
		part = integer(d)
	}
	left := new(big.Int).Sub(whole, part)
	left.Mul(left, integer(p))
	sum := new(big.Int).Mul(part, integer(q))
	sum.Add(sum, left)
	// Of numbers above nought, Div of math/big goes down.
	return int(sum.Div(sum, whole).Int64())
}

// shareAlong is which share of the way from a to b the pixel's middle has gone, by the longer way; nil, if there is no way.
func shareAlong(a, b api.Win, x, y int) *big.Rat {
	wide, high := math.Abs(float64(b.X)-float64(a.X)), math.Abs(float64(b.Y)-float64(a.Y))
	switch {
	case wide == 0 && high == 0:
		return nil
	case wide >= high:
		return big.NewRat(int64(256*x+128-a.X), int64(b.X-a.X))
	}
	return big.NewRat(int64(256*y+128-a.Y), int64(b.Y-a.Y))
}

// shareAcross is which share of the way from a to b has been gone where it is nearest to the pixel's middle; nil, if there is no way.
func shareAcross(a, b api.Win, x, y int) *big.Rat {
	wide, high := integer(b.X-a.X), integer(b.Y-a.Y)
	square := new(big.Int).Add(new(big.Int).Mul(wide, wide), new(big.Int).Mul(high, high))
	if square.Sign() == 0 {
		return nil
	}
	product := new(big.Int).Mul(wide, integer(256*x+128-a.X))
	product.Add(product, new(big.Int).Mul(high, integer(256*y+128-a.Y)))
	return new(big.Rat).SetFrac(product, square)
}

// standing is the number that stands at this share of the way from p to q, rounded down: p, and so much of what is between them.
func standing(p, q int, share *big.Rat) int {
	if share == nil || share.Sign() <= 0 {
		return p
	}
	if share.Cmp(big.NewRat(1, 1)) >= 0 {
		return q
	}
	number := new(big.Rat).Mul(share, big.NewRat(int64(q-p), 1))
	number.Add(number, big.NewRat(int64(p), 1))
	return int(new(big.Int).Div(number.Num(), number.Denom()).Int64())
}

// looking is the depth and the color that stand at this share of the way from a to b.
func looking(a, b api.Win, share *big.Rat) look {
	l := look{z: standing(a.Z, b.Z, share)}
	for i := range l.c {
		l.c[i] = standing(a.C[i], b.C[i], share)
	}
	return l
}

// numbers are all of a look: the depth and the color's four.
func (l look) numbers() [5]int {
	return [5]int{l.z, l.c[0], l.c[1], l.c[2], l.c[3]}
}

// of is what is looked at in a vertex.
func of(w api.Win) look {
	return look{w.Z, w.C}
}

// win is a vertex with that depth and color.
func win(x, y, z int, c ...int) api.Win {
	w := api.Win{X: x, Y: y, Z: z}
	copy(w.C[:], c)
	return w
}

func checkMid(t *testing.T, p, q, n, d, want int) {
	t.Helper()
	if got := Mid(p, q, n, d); got != want {
		t.Errorf("P16.1: Mid(%d, %d, %d, %d): %d, not %d", p, q, n, d, got, want)
	}
}

func checkLook(t *testing.T, c call, a, b api.Win, x, y int, want look) {
	t.Helper()
	if got := c.at(a, b, x, y); got != want {
		t.Errorf("P16.2: %s(%v, %v, %d, %d): %v, not %v", c.name, a, b, x, y, got, want)
	}
}

// checkAll holds both calls against what they must answer, from both ends.
func checkAll(t *testing.T, a, b api.Win, x, y int) {
	t.Helper()
	for _, c := range calls() {
		checkLook(t, c, a, b, x, y, looking(a, b, c.share(a, b, x, y)))
		checkLook(t, c, b, a, x, y, looking(b, a, c.share(b, a, x, y)))
	}
}

func TestExamples(t *testing.T) {
	checkMid(t, 0, 10, 1, 4, 2)
	checkMid(t, 10, 0, 9, 4, 0)
}

func TestMidWritten(t *testing.T) {
	for _, l := range [][5]int{
		{0, 10, 0, 4, 0}, {0, 10, 2, 4, 5}, {0, 10, 3, 4, 7}, {0, 10, 4, 4, 10}, {0, 10, 5, 4, 10}, {0, 10, -1, 4, 0},
		{10, 0, 1, 4, 7}, {10, 0, 2, 4, 5}, {10, 0, 3, 4, 2}, {10, 0, 0, 4, 10}, {10, 0, -7, 4, 10}, {10, 0, 4, 4, 0},
		{-10, 0, 1, 4, -8}, {-10, 0, 3, 4, -3}, {0, -10, 1, 4, -3}, {0, -10, 3, 4, -8}, {-3, -4, 1, 2, -4}, {-4, -3, 1, 2, -4},
		{-1, 1, 1, 2, 0}, {-1, 1, 1, 4, -1}, {-1, 1, 3, 4, 0}, {1, -1, 3, 4, -1}, {5, 5, 1, 3, 5}, {-5, -5, 2, 3, -5},
		{7, 9, 0, 1, 7}, {7, 9, 1, 1, 9}, {7, 9, 1, 2, 8}, {7, 8, 1, 2, 7}, {8, 7, 1, 2, 7}, {255, 0, 1, 256, 254}, {0, 255, 255, 256, 254},
		{7, 9, 1, 0, 7}, {7, 9, 0, 0, 7}, {-7, 9, 5, -1, -7}, {7, 9, -1, -1, 7}, {7, 9, -2, -1, 7}, {7, 9, 3, math.MinInt, 7},
		{farthest, -farthest, 1, 2, 0}, {-farthest, farthest, 1, 2, 0}, {farthest, -farthest, parts / 2, parts, 0},
		{-farthest, farthest, 1, parts, -farthest}, {farthest, -farthest, 1, parts, farthest - 1},
		{farthest, -farthest, parts - 1, parts, -farthest}, {-farthest, farthest, parts - 1, parts, farthest - 1},
		{farthest, farthest, parts / 3, parts, farthest}, {-farthest, -farthest, parts / 3, parts, -farthest},
		{0, farthest, 1 << 22, parts, 1}, {0, farthest, 1<<22 - 1, parts, 0}, {0, -farthest, 1 << 22, parts, -1}, {0, -farthest, 1<<22 + 1, parts, -2},
		{0, 1, math.MinInt, parts, 0}, {0, 1, math.MaxInt, parts, 1}, {3, 4, math.MinInt, 1, 3}, {3, 4, math.MaxInt, 1, 4},
		{3, 4, math.MaxInt, 0, 3}, {3, 4, math.MinInt, math.MinInt, 3}, {3, 4, math.MaxInt, math.MinInt, 3},
	} {
		checkMid(t, l[0], l[1], l[2], l[3], l[4])
	}
}

func TestMidSmall(t *testing.T) {
	for p := -8; p <= 8; p++ {
		for q := -8; q <= 8; q++ {
			for d := -2; d <= 9; d++ {
				for n := -3; n <= d+3; n++ {
					checkMid(t, p, q, n, d, slowMid(p, q, n, d))
				}
			}
		}
	}
}

// reaches are p and q about the bounds, about nought, and between.
func reaches() []int {
	return []int{-farthest, 1 - farthest, -1<<32 - 1, -1 << 24, -255, -2, -1, 0, 1, 2, 3, 255, deepest, 1 << 31, 1<<32 + 1, farthest - 1, farthest}
}

// divisors are d about nought, at the bounds, and where products need more bits than an int has.
func divisors() []int {
	return []int{math.MinInt, math.MinInt + 1, -parts, -2, -1, 0, 1, 2, 3, 7, 256, 1<<23 - 1, 1 << 24, 1 << 29, 1<<31 - 1, 1 << 32, 1<<32 + 1,
		1 << 59, 1<<61 - 1, parts / 3, parts - 1, parts}
}

// shares are n for a d: at both ends, next to them, between, and far out.
func shares(d int) []int {
	return []int{math.MinInt, math.MinInt + 1, -parts, -d, -2, -1, 0, 1, 2, d / 3, d / 2, d/2 + 1, d - 2, d - 1, d, d + 1, d + 2, parts,
		math.MaxInt - 1, math.MaxInt}
}

func TestMidEdges(t *testing.T) {
	for _, p := range reaches() {
		for _, q := range reaches() {
			for _, d := range divisors() {
				for _, n := range shares(d) {
					checkMid(t, p, q, n, d, slowMid(p, q, n, d))
				}
			}
		}
	}
}

func TestMidByChance(t *testing.T) {
	c := chance(16)
	for range 100000 {
		p, q := c.from(-farthest, farthest)>>c.from(0, 40), c.from(-farthest, farthest)>>c.from(0, 40)
		d := 1 + c.from(0, parts-1)>>c.from(0, 62)
		for _, n := range []int{c.from(0, d), c.from(-d, 0), d + c.from(0, d)} {
			checkMid(t, p, q, n, d, slowMid(p, q, n, d))
		}
	}
}

// TestMidFollows holds what stands between against both ends, against what stands from the other end, and against what stands ahead.
func TestMidFollows(t *testing.T) {
	for _, p := range reaches() {
		for _, q := range reaches() {
			for _, d := range []int{1, 2, 3, 7, 256, 1000003, parts - 1, parts} {
				last := p
				for i := range 130 {
					n := d/128*i + d%128*i/128
					if i == 129 {
						n = math.MaxInt
					}
					got := Mid(p, q, n, d)
					if got < min(p, q) || got > max(p, q) {
						t.Errorf("P16.3: Mid(%d, %d, %d, %d): %d isn't between", p, q, n, d, got)
					}
					if other := Mid(q, p, d-n, d); n <= d && other != got {
						t.Errorf("P16.3: Mid(%d, %d, %d, %d): %d, from the other end %d", p, q, n, d, got, other)
					}
					if p <= q && got < last || p >= q && got > last {
						t.Errorf("P16.3: Mid(%d, %d, %d, %d): %d, and %d ahead of it", p, q, n, d, got, last)
					}
					last = got
				}
			}
		}
	}
}

// TestWritten holds lines in each direction against looks that are written out.
func TestWritten(t *testing.T) {
	along, across := calls()[0], calls()[1]
	for _, l := range []struct {
		c    call
		a, b api.Win
		x, y int
		want look
	}{
		// Level, to the right: the pixels' middles lie at a, at each quarter, and at b; aside of it nothing changes.
		{along, win(128, 128, 0, 0, 255, 10, 200), win(1152, 128, 1000, 255, 0, 14, 200), 0, 0, look{0, api.Color{0, 255, 10, 200}}},
		{along, win(128, 128, 0, 0, 255, 10, 200), win(1152, 128, 1000, 255, 0, 14, 200), 1, 0, look{250, api.Color{63, 191, 11, 200}}},
		{along, win(128, 128, 0, 0, 255, 10, 200), win(1152, 128, 1000, 255, 0, 14, 200), 2, 9, look{500, api.Color{127, 127, 12, 200}}},
		{along, win(128, 128, 0, 0, 255, 10, 200), win(1152, 128, 1000, 255, 0, 14, 200), 3, -9, look{750, api.Color{191, 63, 13, 200}}},
		{along, win(128, 128, 0, 0, 255, 10, 200), win(1152, 128, 1000, 255, 0, 14, 200), 4, 0, look{1000, api.Color{255, 0, 14, 200}}},
		{along, win(128, 128, 0, 0, 255, 10, 200), win(1152, 128, 1000, 255, 0, 14, 200), 5, 0, look{1000, api.Color{255, 0, 14, 200}}},
		{along, win(128, 128, 0, 0, 255, 10, 200), win(1152, 128, 1000, 255, 0, 14, 200), -1, 0, look{0, api.Color{0, 255, 10, 200}}},
		// The same line upright, both ways, and level to the left.
		{along, win(128, 128, 0, 0, 255, 10, 200), win(128, 1152, 1000, 255, 0, 14, 200), 7, 1, look{250, api.Color{63, 191, 11, 200}}},
		{along, win(128, 1152, 0, 0, 255, 10, 200), win(128, 128, 1000, 255, 0, 14, 200), 7, 3, look{250, api.Color{63, 191, 11, 200}}},
		{along, win(1152, 128, 0, 0, 255, 10, 200), win(128, 128, 1000, 255, 0, 14, 200), 3, 7, look{250, api.Color{63, 191, 11, 200}}},
		{along, win(1152, 128, 0, 0, 255, 10, 200), win(128, 128, 1000, 255, 0, 14, 200), 5, 7, look{0, api.Color{0, 255, 10, 200}}},
		{along, win(1152, 128, 0, 0, 255, 10, 200), win(128, 128, 1000, 255, 0, 14, 200), -1, 7, look{1000, api.Color{255, 0, 14, 200}}},
		// As wide as high, one unit wider, one unit higher: by X, by X, by Y. The middle of 1 0 is at 384 128.
		{along, win(0, 0, 0), win(512, 512, 512), 1, 0, look{z: 384}},
		{along, win(0, 0, 0), win(513, 512, 513), 1, 0, look{z: 384}},
		{along, win(0, 0, 0), win(512, 513, 513), 1, 0, look{z: 128}},
		{along, win(0, 512, 0), win(512, 0, 512), 1, 0, look{z: 384}},
		{along, win(0, 513, 0), win(512, 0, 513), 1, 0, look{z: 385}},
		{along, win(512, 0, 0), win(0, 512, 512), 1, 0, look{z: 128}},
		{along, win(513, 513, 0), win(0, 1, 513), 1, 0, look{z: 129}},
		{along, win(513, 513, 0), win(1, 0, 513), 1, 0, look{z: 385}},
		// Level and upright: the nearest place is beside the middle.
		{across, win(128, 128, 0, 0, 255, 10, 200), win(1152, 128, 1000, 255, 0, 14, 200), 1, 99, look{250, api.Color{63, 191, 11, 200}}},
		{across, win(128, 1152, 0, 0, 255, 10, 200), win(128, 128, 1000, 255, 0, 14, 200), -99, 3, look{250, api.Color{63, 191, 11, 200}}},
		// From 0 0 to 1024 512: 384 128 has gone 384 times 1024 and 128 times 512, of 1024 times 1024 and 512 times 512.
		{across, win(0, 0, 0), win(1024, 512, 20), 1, 0, look{z: 7}},
		{across, win(1024, 512, 20), win(0, 0, 0), 1, 0, look{z: 7}},
		{across, win(0, 0, 20), win(1024, 512, 0), 1, 0, look{z: 13}},
		{across, win(0, 0, 0), win(1024, 512, 20), -1, 0, look{z: 0}},
		{across, win(0, 0, 0), win(1024, 512, 20), 0, -1, look{z: 1}},
		{across, win(0, 0, 0), win(1024, 512, 20), -1, 3, look{z: 5}},
		{across, win(0, 0, 0), win(1024, 512, 20), 3, 3, look{z: 20}},
		// From a point to itself.
		{along, win(128, 128, 7, 1, 2, 3, 4), win(128, 128, 9, 5, 6, 7, 8), 0, 0, look{7, api.Color{1, 2, 3, 4}}},
		{along, win(128, 128, 7, 1, 2, 3, 4), win(128, 128, 9, 5, 6, 7, 8), 5, -5, look{7, api.Color{1, 2, 3, 4}}},
		{across, win(128, 128, 7, 1, 2, 3, 4), win(128, 128, 9, 5, 6, 7, 8), 0, 0, look{7, api.Color{1, 2, 3, 4}}},
		{across, win(128, 128, 7, 1, 2, 3, 4), win(128, 128, 9, 5, 6, 7, 8), -5, 5, look{7, api.Color{1, 2, 3, 4}}},
	} {
		checkLook(t, l.c, l.a, l.b, l.x, l.y, l.want)
	}
}

// spans are how wide and how high lines may be: in each direction, level, upright, flat, steep, and about as wide as high.
func spans() [][2]int {
	var l [][2]int
	for _, s := range [][2]int{{0, 0}, {1, 0}, {1, 1}, {2, 1}, {256, 0}, {1024, 0}, {1000, 3}, {700, 699}, {700, 700}, {701, 700}, {512, 256},
		{1 << 20, 1<<20 - 1}, {1 << 20, 1 << 20}, {1 << 27, 1}, {1 << 27, 1 << 27}} {
		for _, signs := range [][2]int{{1, 1}, {1, -1}, {-1, 1}, {-1, -1}} {
			l = append(l, [2]int{signs[0] * s[0], signs[1] * s[1]}, [2]int{signs[0] * s[1], signs[1] * s[0]})
		}
	}
	return l
}

// pairs are depths and colors of two ends: alike, rising, falling, of each on its own, and at the bounds.
func pairs() [][2]look {
	return [][2]look{
		{{5, api.Color{1, 2, 3, 4}}, {5, api.Color{1, 2, 3, 4}}},
		{{0, api.Color{0, 0, 0, 0}}, {deepest, api.Color{255, 255, 255, 255}}},
		{{deepest, api.Color{255, 255, 255, 255}}, {0, api.Color{0, 0, 0, 0}}},
		{{deepest, api.Color{255, 0, 255, 0}}, {deepest, api.Color{0, 255, 255, 0}}},
		{{100, api.Color{9, 250, 0, 77}}, {331, api.Color{250, 9, 255, 78}}},
	}
}

func TestSpans(t *testing.T) {
	for _, s := range spans() {
		for _, from := range []api.Point{{}, {X: 128, Y: 128}, {X: -77, Y: 300}, {X: 1280, Y: -5}} {
			for _, p := range pairs() {
				a := api.Win{X: from.X, Y: from.Y, Z: p[0].z, C: p[0].c}
				b := api.Win{X: from.X + s[0], Y: from.Y + s[1], Z: p[1].z, C: p[1].c}
				for y := -3; y <= 4; y++ {
					for x := -3; x <= 6; x++ {
						checkAll(t, a, b, x, y)
					}
				}
				for at := -2; at <= 6; at++ {
					checkAll(t, a, b, kept((a.X+s[0]*at/4)/256), kept((a.Y+s[1]*at/4)/256))
				}
			}
		}
	}
}

// TestBounds takes lines between places at the bounds, and pixels at theirs, so that both ways together are as far as may be.
func TestBounds(t *testing.T) {
	places := []int{-place, 1 - place, -1, 0, place - 1, place}
	pixels := []int{-border, 1 - border, -place / 256, -place/256 - 1, -1, 0, place/256 - 1, place / 256, border - 1, border}
	first, last := look{0, api.Color{0, 255, 0, 255}}, look{deepest, api.Color{255, 0, 255, 0}}
	for _, ax := range places {
		for _, ay := range places {
			for _, bx := range places {
				for _, by := range places {
					a, b := api.Win{X: ax, Y: ay, Z: first.z, C: first.c}, api.Win{X: bx, Y: by, Z: last.z, C: last.c}
					for _, y := range pixels {
						for _, x := range pixels {
							checkAll(t, a, b, x, y)
						}
					}
				}
			}
		}
	}
}

func TestByChance(t *testing.T) {
	c := chance(2916)
	for range 30000 {
		a, b := c.line()
		for range 3 {
			x, y := c.near(a, b)
			checkAll(t, a, b, x, y)
		}
		checkAll(t, a, b, c.from(-border, border), c.from(-border, border))
	}
}

// TestEachNumber holds each number of a look on its own: it hangs on that number of the ends alone.
func TestEachNumber(t *testing.T) {
	c := chance(5)
	for range 2000 {
		a, b := c.line()
		x, y := c.near(a, b)
		for _, call := range calls() {
			want := call.at(a, b, x, y)
			bare, other := win(a.X, a.Y, a.Z), win(b.X, b.Y, b.Z)
			if got := call.at(bare, other, x, y); got != (look{z: want.z}) {
				t.Errorf("P16.2: %s(%v, %v, %d, %d): %v, not the depth %d alone", call.name, bare, other, x, y, got, want.z)
			}
			for i := range want.c {
				bare, other = win(a.X, a.Y, 0), win(b.X, b.Y, 0)
				bare.C[i], other.C[i] = a.C[i], b.C[i]
				var one look
				one.c[i] = want.c[i]
				if got := call.at(bare, other, x, y); got != one {
					t.Errorf("P16.2: %s(%v, %v, %d, %d): %v, not %v", call.name, bare, other, x, y, got, one)
				}
			}
		}
	}
}

// TestFollows holds what stands at pixels against both ends, against what stands there from the other end, and against what stands
// at the pixel ahead.
func TestFollows(t *testing.T) {
	c := chance(163)
	for range 3000 {
		a, b := c.line()
		if a.X == b.X && a.Y == b.Y {
			continue
		}
		stepX, stepY := sign(b.X-a.X), sign(b.Y-a.Y)
		startX, startY := kept(a.X/256-3*stepX), kept(a.Y/256-3*stepY)
		for _, call := range calls() {
			ahead := of(a)
			for i := range 20 {
				// By both ways the pixels go on to where b is, or stay: so none goes back, along the line or across it.
				x, y := kept(startX+stepX*i*(i+1)/2), kept(startY+stepY*i)
				got := call.at(a, b, x, y)
				name := fmt.Sprintf("P16.3: %s(%v, %v, %d, %d): %v", call.name, a, b, x, y, got)
				checkBetween(t, name, got, of(a), of(b))
				checkRising(t, name, ahead, got, of(a), of(b))
				if other := call.at(b, a, x, y); other != got {
					t.Errorf("%s, from the other end %v", name, other)
				}
				ahead = got
			}
		}
	}
}

func sign(n int) int {
	switch {
	case n < 0:
		return -1
	case n > 0:
		return 1
	}
	return 0
}

// checkBetween holds each number against those of both ends.
func checkBetween(t *testing.T, name string, got, a, b look) {
	t.Helper()
	for i, n := range got.numbers() {
		p, q := a.numbers()[i], b.numbers()[i]
		if n < min(p, q) || n > max(p, q) {
			t.Errorf("%s: %d isn't between %d and %d", name, n, p, q)
		}
	}
}

// checkRising holds each number against the one ahead of it: it goes on as from a to b, or stays.
func checkRising(t *testing.T, name string, ahead, got, a, b look) {
	t.Helper()
	for i, n := range got.numbers() {
		p, q, last := a.numbers()[i], b.numbers()[i], ahead.numbers()[i]
		if p <= q && n < last || p >= q && n > last {
			t.Errorf("%s: %d, and %d ahead of it, from %d to %d", name, n, last, p, q)
		}
	}
}

// TestEnds holds that at a's own middle a is seen, at b's b, and beyond them the same.
func TestEnds(t *testing.T) {
	c := chance(71)
	for range 2000 {
		ax, ay, bx, by := c.from(-50, 50), c.from(-50, 50), c.from(-50, 50), c.from(-50, 50)
		a, b := c.win(1), c.win(1)
		a.X, a.Y, b.X, b.Y = 256*ax+128, 256*ay+128, 256*bx+128, 256*by+128
		if ax == bx && ay == by {
			continue
		}
		for _, call := range calls() {
			checkLook(t, call, a, b, ax, ay, of(a))
			checkLook(t, call, a, b, bx, by, of(b))
			checkLook(t, call, a, b, 2*ax-bx, 2*ay-by, of(a))
			checkLook(t, call, a, b, 2*bx-ax, 2*by-ay, of(b))
		}
	}
}

// TestPoint holds lines from a point to itself: a's depth and color, wherever the pixel is.
func TestPoint(t *testing.T) {
	c := chance(9)
	for range 2000 {
		a, b := c.win(place), c.win(place)
		b.X, b.Y = a.X, a.Y
		for _, call := range calls() {
			for _, x := range []int{a.X / 256, -border, 0, border} {
				checkLook(t, call, a, b, x, a.Y/256, of(a))
				checkLook(t, call, a, b, x, -border, of(a))
				checkLook(t, call, a, b, a.X/256, x, of(a))
			}
		}
	}
}

// TestAnyNumbers asks for what no chapter promises: the calls must end, and not panic.
func TestAnyNumbers(t *testing.T) {
	l := []int{math.MinInt, math.MinInt + 1, -1 << 32, -1, 0, 1, 1 << 32, 1 << 62, math.MaxInt - 1, math.MaxInt}
	for _, p := range l {
		for _, q := range l {
			for _, n := range l {
				for _, d := range l {
					Mid(p, q, n, d)
					for _, call := range calls() {
						call.tell(win(p, q, n, d), win(n, d, p, q), q, p)
						call.tell(win(p, q, 0), win(n, d, 0), n, q)
					}
				}
			}
		}
	}
}
