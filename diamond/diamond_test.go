package diamond

import (
	"math/big"
	"testing"

	"rastrum/api"
)

const (
	farthest = 1 << 29 // of a point, either way
	most     = 1 << 22 // MaxPixel, written out
)

// pt is the point at x, y.
func pt(x, y int) api.Point {
	return api.Point{X: x, Y: y}
}

// pixels are some at nought, below 0 and above, near and as far as lines of any kind around them may lie.
func pixels() [][2]int {
	return [][2]int{{0, 0}, {-1, 0}, {0, -1}, {-1, -1}, {1, 1}, {5, -7}, {-300, 41}, {1<<21 - 9, 1<<21 - 9}, {9 - 1<<21, 1<<21 - 9},
		{9 - 1<<21, 9 - 1<<21}, {1<<21 - 9, 9 - 1<<21}}
}

// from is the point at x, y, counted from the middle of the pixel p.
func from(p [2]int, x, y int) api.Point {
	return pt(256*p[0]+128+x, 256*p[1]+128+y)
}

// floorDiv is n divided by d, which is 1 or more, rounded down.
func floorDiv(n, d int) int {
	rest := (n%d + d) % d
	return (n - rest) / d
}

// abs is n without its sign.
func abs(n int) int {
	if n < 0 {
		return -n
	}
	return n
}

// chance is a row of numbers that look like chance and are the same at each run.
type chance uint64

// from is the next number from least to greatest.
func (c *chance) from(least, greatest int) int {
	*c ^= *c << 13
	*c ^= *c >> 7
	*c ^= *c << 17
	return least + int(*c>>1)%(greatest-least+1)
}

// point is one that is no further from nought than far.
func (c *chance) point(far int) api.Point {
	return pt(c.from(-far, far), c.from(-far, far))
}

// tiny is n, and e times less than any number, and d times less than any part of that.
type tiny struct{ n, e, d int }

// sign is -1, 0 or 1.
func (t tiny) sign() int {
	for _, n := range [3]int{t.n, t.e, t.d} {
		switch {
		case n < 0:
			return -1
		case n > 0:
			return 1
		}
	}
	return 0
}

// times is t, multiplied by k.
func (t tiny) times(k int) tiny {
	return tiny{t.n * k, t.e * k, t.d * k}
}

// less is t less u.
func (t tiny) less(u tiny) tiny {
	return tiny{t.n - u.n, t.e - u.e, t.d - u.d}
}

// isNear tells whether x and y, their signs left out, are together less than this.
func isNear(x, y tiny, than int) bool {
	x, y = x.times(x.sign()), y.times(y.sign())
	return tiny{n: than}.less(x).less(y).sign() > 0
}

// slowMeets is what Meets must answer: a line is the nearest to a middle at one of its ends, above or below the middle, or left or
// right of it.
func slowMeets(a, b api.Point, x, y int) bool {
	ax, ay := tiny{a.X - 256*x - 128, -1, 0}, tiny{a.Y - 256*y - 128, 0, -1}
	bx, by := tiny{b.X - 256*x - 128, -1, 0}, tiny{b.Y - 256*y - 128, 0, -1}
	if isNear(ax, ay, 128) || isNear(bx, by, 128) {
		return true
	}
	dx, dy := b.X-a.X, b.Y-a.Y
	if ax.sign() != bx.sign() && isNear(tiny{}, ay.times(dx).less(ax.times(dy)), 128*abs(dx)) {
		return true
	}
	return ay.sign() != by.sign() && isNear(ax.times(dy).less(ay.times(dx)), tiny{}, 128*abs(dy))
}

// slowExits is what Exits must answer.
func slowExits(a, b api.Point, x, y int) bool {
	return slowMeets(a, b, x, y) && !slowMeets(b, b, x, y)
}

// shifted is n, less 2^-far.
func shifted(n int, far uint) *big.Rat {
	little := new(big.Rat).SetFrac(big.NewInt(1), new(big.Int).Lsh(big.NewInt(1), far))
	return new(big.Rat).Sub(new(big.Rat).SetInt64(int64(n)), little)
}

// cutMeets is what Meets must answer, too: it cuts the way from a to b, from 0 to 1, at each side of the diamond, by numbers without an
// end, moved by 2^-100 and 2^-200: of points that are no further than 2^29 nothing is between.
func cutMeets(a, b api.Point, x, y int) bool {
	of := func(p api.Point, right, up int64) *big.Rat {
		px, py := shifted(p.X-256*x-128, 100), shifted(p.Y-256*y-128, 200)
		sum := new(big.Rat).Mul(px, new(big.Rat).SetInt64(right))
		sum.Add(sum, new(big.Rat).Mul(py, new(big.Rat).SetInt64(up)))
		return sum.Sub(sum, new(big.Rat).SetInt64(128))
	}
	zero, one := new(big.Rat), new(big.Rat).SetInt64(1)
	begin, end := new(big.Rat).SetInt64(-1), new(big.Rat).SetInt64(2)
	for _, way := range [4][2]int64{{1, 1}, {1, -1}, {-1, 1}, {-1, -1}} {
		first, last := of(a, way[0], way[1]), of(b, way[0], way[1])
		rise := new(big.Rat).Sub(last, first)
		if rise.Sign() == 0 {
			if first.Sign() >= 0 {
				return false
			}
			continue
		}
		at := new(big.Rat).Quo(new(big.Rat).Neg(first), rise)
		if rise.Sign() > 0 && at.Cmp(end) < 0 {
			end = at
		}
		if rise.Sign() < 0 && at.Cmp(begin) > 0 {
			begin = at
		}
	}
	return begin.Cmp(end) < 0 && begin.Cmp(one) < 0 && end.Cmp(zero) > 0
}

func checkIn(t *testing.T, p api.Point, x, y int, ok bool) {
	t.Helper()
	if gotX, gotY, got := In(p); gotX != x || gotY != y || got != ok {
		t.Errorf("P13.1: In(%v): %d, %d, %v; not %d, %d, %v", p, gotX, gotY, got, x, y, ok)
	}
}

// checkLine holds Meets and Exits of the line and of the line back against these.
func checkLine(t *testing.T, a, b api.Point, x, y int, meets, exits, back bool) {
	t.Helper()
	if got := Meets(a, b, x, y); got != meets {
		t.Errorf("P13.1: Meets(%v, %v, %d, %d): %v", a, b, x, y, got)
	}
	if got := Meets(b, a, x, y); got != meets {
		t.Errorf("P13.2: Meets(%v, %v, %d, %d): %v, and the line back not so", b, a, x, y, got)
	}
	if got := Exits(a, b, x, y); got != exits {
		t.Errorf("P13.1: Exits(%v, %v, %d, %d): %v", a, b, x, y, got)
	}
	if got := Exits(b, a, x, y); got != back {
		t.Errorf("P13.1: Exits(%v, %v, %d, %d): %v", b, a, x, y, got)
	}
}

// checkSlow holds a line against slowMeets, and answers that.
func checkSlow(t *testing.T, a, b api.Point, x, y int) bool {
	t.Helper()
	meets := slowMeets(a, b, x, y)
	checkLine(t, a, b, x, y, meets, slowExits(a, b, x, y), slowExits(b, a, x, y))
	return meets
}

func TestInAsWritten(t *testing.T) {
	cases := []struct {
		x, y, wantX, wantY int
		ok                 bool
	}{
		{256, 128, 0, 0, true}, {0, 128, -1, 0, true}, {128, 128, 0, 0, true}, {-128, -128, -1, -1, true}, {384, -128, 1, -1, true},
		// At nought, and where pixels touch.
		{0, 0, 0, 0, false}, {256, 256, 0, 0, false}, {-256, 256, 0, 0, false}, {256, 0, 0, 0, false}, {512, 768, 0, 0, false},
		// The right and the left corner, and one unit beside each.
		{255, 128, 0, 0, true}, {257, 128, 1, 0, true}, {256, 127, 0, 0, false}, {256, 129, 0, 0, false},
		{1, 128, 0, 0, true}, {-1, 128, -1, 0, true}, {0, 127, 0, 0, false}, {0, 129, 0, 0, false},
		// The upper and the lower one: the next diamond begins there, and neither has it.
		{128, 256, 0, 0, false}, {128, 255, 0, 0, true}, {128, 257, 0, 1, true}, {127, 256, 0, 0, false}, {129, 256, 0, 0, false},
		{128, 0, 0, 0, false}, {128, 1, 0, 0, true}, {128, -1, 0, -1, true}, {127, 0, 0, 0, false}, {129, 0, 0, 0, false},
		// The edges: upper right, lower right, upper left, lower left, and one unit beside each.
		{192, 192, 0, 0, true}, {193, 192, 0, 0, false}, {192, 193, 0, 0, false}, {191, 192, 0, 0, true}, {192, 191, 0, 0, true},
		{192, 64, 0, 0, true}, {193, 64, 0, 0, false}, {192, 63, 0, 0, false}, {191, 64, 0, 0, true}, {192, 65, 0, 0, true},
		{64, 192, 0, 0, false}, {63, 192, 0, 0, false}, {64, 193, 0, 0, false}, {65, 192, 0, 0, true}, {64, 191, 0, 0, true},
		{64, 64, 0, 0, false}, {63, 64, 0, 0, false}, {64, 63, 0, 0, false}, {65, 64, 0, 0, true}, {64, 65, 0, 0, true},
		{129, 255, 0, 0, true}, {129, 1, 0, 0, true}, {127, 255, 0, 0, false}, {127, 1, 0, 0, false},
		// Each quarter of a diamond, and each corner of its pixel, of pixels above 0 and below.
		{3*256 + 150, -2*256 + 170, 3, -2, true}, {3*256 + 100, -2*256 + 170, 3, -2, true}, {3*256 + 150, -2*256 + 70, 3, -2, true},
		{3*256 + 100, -2*256 + 70, 3, -2, true}, {3*256 + 230, -2*256 + 210, 0, 0, false}, {3*256 + 30, -2*256 + 210, 0, 0, false},
		{3*256 + 230, -2*256 + 40, 0, 0, false}, {3*256 + 30, -2*256 + 40, 0, 0, false},
		// As far as may be.
		{farthest, farthest - 128, 1<<21 - 1, 1<<21 - 1, true}, {-farthest, 128 - farthest, -1<<21 - 1, -1 << 21, true},
		{farthest, 128 - farthest, 1<<21 - 1, -1 << 21, true}, {-farthest, farthest - 128, -1<<21 - 1, 1<<21 - 1, true},
		{farthest - 128, farthest - 1, 1<<21 - 1, 1<<21 - 1, true}, {farthest - 128, farthest, 0, 0, false},
		{128 - farthest, 1 - farthest, -1 << 21, -1 << 21, true}, {128 - farthest, -farthest, 0, 0, false},
		{farthest, farthest, 0, 0, false}, {-farthest, farthest, 0, 0, false}, {farthest, -farthest, 0, 0, false}, {-farthest, -farthest, 0, 0, false},
		{farthest, 128, 1<<21 - 1, 0, true}, {-farthest, 128, -1<<21 - 1, 0, true}, {128, farthest - 1, 0, 1<<21 - 1, true}, {128, 1 - farthest, 0, -1 << 21, true},
	}
	for _, c := range cases {
		checkIn(t, pt(c.x, c.y), c.wantX, c.wantY, c.ok)
	}
}

// TestInOfWholePixels has each point of some pixels, their sides too.
func TestInOfWholePixels(t *testing.T) {
	for _, p := range append(pixels(), [2]int{1<<21 - 1, 1<<21 - 1}, [2]int{-1 << 21, -1 << 21}) {
		in := 0
		for x := -128; x <= 128; x++ {
			for y := -128; y <= 128; y++ {
				far, at := abs(x)+abs(y), from(p, x, y)
				switch {
				case far < 128 || far == 128 && x > 0:
					in++
					checkIn(t, at, p[0], p[1], true)
				case x == -128 && y == 0:
					checkIn(t, at, p[0]-1, p[1], true)
				default:
					checkIn(t, at, 0, 0, false)
				}
			}
		}
		// Of the two halves of the boundary just one is in it.
		if in != 2*128*128 {
			t.Errorf("P13.1: of the points of pixel %v %d are in its diamond", p, in)
		}
	}
}

// TestLinesFromAPointToItself has each point of a pixel, against its own diamond and those around.
func TestLinesFromAPointToItself(t *testing.T) {
	for _, p := range pixels()[3:8] {
		for x := -130; x <= 130; x += 2 {
			for y := -130; y <= 130; y++ {
				at := from(p, x+y&1, y)
				isX, isY, is := In(at)
				for i := range 9 {
					nextX, nextY := p[0]+i%3-1, p[1]+i/3-1
					checkLine(t, at, at, nextX, nextY, is && nextX == isX && nextY == isY, false, false)
				}
			}
		}
	}
}

// line is from one place to another, both counted from a middle; whether it meets the diamond, whether it exits from it, and whether
// the line back does.
type line struct {
	ax, ay, bx, by     int
	meets, exits, back bool
}

// plainLines go by no boundary of the diamond closely.
func plainLines() []line {
	const yes, no = true, false
	return []line{
		// Within it, in each direction.
		{-10, 5, 20, -30, yes, no, no}, {-60, 0, 60, 0, yes, no, no}, {0, -60, 0, 60, yes, no, no}, {-40, -40, 40, 40, yes, no, no}, {-40, 40, 40, -40, yes, no, no},
		// From within to outside, in each direction, near and far.
		{10, 10, 300, 40, yes, yes, no}, {10, 10, -300, 40, yes, yes, no}, {10, 10, 40, 300, yes, yes, no}, {10, 10, 40, -300, yes, yes, no},
		{-5, 0, 129, 0, yes, yes, no}, {-5, 0, -129, 0, yes, yes, no}, {0, -5, 0, 129, yes, yes, no}, {0, -5, 0, -129, yes, yes, no},
		{0, 0, 65, 65, yes, yes, no}, {0, 0, 65, -65, yes, yes, no}, {0, 0, -65, 65, yes, yes, no}, {0, 0, -65, -65, yes, yes, no},
		{0, 0, 1000, 1000, yes, yes, no}, {3, 4, -1000, 1000, yes, yes, no}, {3, 4, -900, -1001, yes, yes, no}, {0, 0, 1000, -999, yes, yes, no},
		// Through it: from the upper right edge to the upper left, the lower left, the lower right one.
		{300, 64, -300, 64, yes, yes, yes}, {300, 300, -300, -300, yes, yes, yes}, {64, 300, 64, -300, yes, yes, yes},
		// From the upper left one to the lower left, the lower right one; from the lower left one to the lower right one.
		{-64, 300, -64, -300, yes, yes, yes}, {-300, 300, 300, -300, yes, yes, yes}, {-300, -64, 300, -64, yes, yes, yes},
		// The same aslant, flat and steep, not through the middle.
		{200, 75, -250, 55, yes, yes, yes}, {240, 250, -200, -180, yes, yes, yes}, {60, 280, 70, -250, yes, yes, yes},
		{-60, 280, -70, -250, yes, yes, yes}, {-210, 240, 260, -220, yes, yes, yes}, {-220, -55, 250, -70, yes, yes, yes},
		{200, 20, -300, 35, yes, yes, yes}, {20, 200, 35, -300, yes, yes, yes},
		// Through a corner, cut off: right, upper, left, lower.
		{100, 100, 130, -100, yes, yes, yes}, {100, 100, -100, 130, yes, yes, yes}, {-100, 100, -130, -100, yes, yes, yes}, {-100, -100, 100, -130, yes, yes, yes},
		// By it on each side: level and upright.
		{-300, 129, 300, 129, no, no, no}, {-300, -129, 300, -129, no, no, no}, {129, -300, 129, 300, no, no, no}, {-129, -300, -129, 300, no, no, no},
		{-9999, 500, 9999, 500, no, no, no}, {-9999, -500, 9999, -500, no, no, no}, {500, -9999, 500, 9999, no, no, no}, {-500, -9999, -500, 9999, no, no, no},
		// By it on each side, as wide as high: near, and far.
		{200, -71, -71, 200, no, no, no}, {-200, 71, 71, -200, no, no, no}, {-200, -71, 71, 200, no, no, no}, {200, 71, -71, -200, no, no, no},
		{700, -100, -100, 700, no, no, no}, {-700, 100, 100, -700, no, no, no}, {-700, -100, 100, 700, no, no, no}, {700, 100, -100, -700, no, no, no},
		// By it, flat and steep.
		{-300, 120, 300, 140, no, no, no}, {-300, -140, 300, -120, no, no, no}, {140, 300, 110, -300, yes, yes, yes}, {140, 300, 125, -300, no, no, no},
		{-140, 300, -125, -300, no, no, no}, {-300, 110, 300, 140, yes, yes, yes},
		// Ahead of it and behind it: on its way, but too short, in each direction.
		{-400, 0, -130, 0, no, no, no}, {130, 0, 400, 0, no, no, no}, {0, -400, 0, -130, no, no, no}, {0, 130, 0, 400, no, no, no},
		{-300, -300, -65, -65, no, no, no}, {65, 65, 300, 300, no, no, no}, {-300, 300, -65, 65, no, no, no}, {65, -65, 300, -300, no, no, no},
		{-128, -128, -65, -65, no, no, no}, {-400, -90, -120, -20, no, no, no}, {90, 300, 40, 95, no, no, no},
		// From one side of a corner to the next one, by the corner.
		{90, 90, 140, -20, no, no, no}, {-90, 90, -140, -20, no, no, no}, {90, 90, -20, 140, no, no, no}, {90, -90, -20, -140, no, no, no},
	}
}

// closeLines go by the boundary of the diamond.
func closeLines() []line {
	const yes, no = true, false
	return []line{
		// Along its edges, from corner to corner: upper right, lower right, upper left, lower left.
		{128, 0, 0, 128, yes, yes, no}, {0, -128, 128, 0, yes, no, yes}, {-128, 0, 0, 128, no, no, no}, {-128, 0, 0, -128, no, no, no},
		// The same, along a part, and beyond both corners.
		{100, 28, 30, 98, yes, no, no}, {30, -98, 100, -28, yes, no, no}, {-100, 28, -30, 98, no, no, no}, {-100, -28, -30, -98, no, no, no},
		{228, -100, -100, 228, yes, yes, yes}, {-100, -228, 228, 100, yes, yes, yes}, {-228, -100, 100, 228, no, no, no}, {-228, 100, 100, -228, no, no, no},
		// Beyond one corner.
		{100, 28, -50, 178, yes, yes, no}, {100, 28, 178, -50, yes, yes, no}, {30, -98, -50, -178, yes, yes, no}, {100, -28, 178, 50, yes, yes, no},
		// On an edge's line, but beyond its corner, and from there on.
		{128, 0, 192, -64, yes, yes, no}, {128, 0, 192, 64, yes, yes, no}, {0, 128, -64, 192, no, no, no}, {0, -128, -64, -192, no, no, no},
		{129, -1, 192, -64, no, no, no}, {129, 1, 192, 64, no, no, no}, {-1, 129, -64, 192, no, no, no}, {-1, -129, -64, -192, no, no, no},
		{0, 128, 64, 192, no, no, no}, {0, -128, 64, -192, no, no, no}, {-128, 0, -192, 64, no, no, no}, {-128, 0, -192, -64, no, no, no},
		// To the middle of an edge from outside, and from inside.
		{300, 100, 64, 64, yes, no, yes}, {100, 300, 64, 64, yes, no, yes}, {64, 300, 64, 64, yes, no, yes}, {300, 64, 64, 64, yes, no, yes},
		{300, -100, 64, -64, yes, no, yes}, {64, -300, 64, -64, yes, no, yes}, {300, -64, 64, -64, yes, no, yes},
		{-300, 100, -64, 64, no, no, no}, {-64, 300, -64, 64, no, no, no}, {-300, 64, -64, 64, no, no, no},
		{-300, -100, -64, -64, no, no, no}, {-64, -300, -64, -64, no, no, no}, {-300, -64, -64, -64, no, no, no},
		{-10, 10, 64, 64, yes, no, no}, {-10, 10, 64, -64, yes, no, no}, {-10, 10, -64, 64, yes, yes, no}, {-10, 10, -64, -64, yes, yes, no},
		// From edge to edge: both are in it, one is, none is.
		{64, 64, 64, -64, yes, no, no}, {64, 64, -64, 64, yes, yes, no}, {64, -64, -64, 64, yes, yes, no}, {-64, 64, -64, -64, yes, yes, yes},
		// By its corners, level: the upper one has the move down, the lower one not.
		{-300, 128, 300, 128, yes, yes, yes}, {-300, -128, 300, -128, no, no, no}, {-1, 128, 1, 128, yes, yes, yes}, {-1, -128, 1, -128, no, no, no},
		// Up to the upper corner, and from it on: the point is moved left of it, so the line must come from the right, and from below, or
		// level. From the left it must be steeper than the edge.
		{-300, 128, 0, 128, no, no, no}, {0, 128, 300, 128, yes, yes, yes}, {0, 128, 1, 128, yes, yes, yes}, {-1, 128, 0, 128, no, no, no},
		{-300, 129, 0, 128, no, no, no}, {300, 129, 0, 128, no, no, no}, {300, 127, 0, 128, yes, yes, yes}, {200, 327, 0, 128, no, no, no},
		{200, 328, 0, 128, no, no, no}, {-200, 328, 0, 128, no, no, no}, {0, 300, 0, 128, no, no, no}, {0, 300, 0, 127, yes, no, yes},
		{-300, 120, 0, 128, no, no, no}, {-130, 0, 0, 128, no, no, no}, {-130, -2, 0, 128, no, no, no}, {-130, -3, 0, 128, yes, yes, yes},
		// By its corners, upright: the right one has the move to the left, the left one not.
		{128, -300, 128, 300, yes, yes, yes}, {-128, -300, -128, 300, no, no, no}, {128, -1, 128, 1, yes, yes, yes}, {-128, -1, -128, 1, no, no, no},
		// Up to the right corner: the point itself is in it.
		{128, -300, 128, 0, yes, no, yes}, {128, 300, 128, 0, yes, no, yes}, {300, 0, 128, 0, yes, no, yes}, {300, 200, 128, 0, yes, no, yes},
		{300, 0, 129, 0, no, no, no}, {0, 0, 128, 0, yes, no, no}, {-300, 0, 128, 0, yes, no, yes},
		// Up to the left corner: it is in none but the left one's.
		{-300, 0, -128, 0, no, no, no}, {-128, -300, -128, 0, no, no, no}, {-128, 0, -127, 0, yes, no, yes}, {-128, 0, 300, 0, yes, yes, yes},
		{-300, 0, -127, 0, yes, no, yes}, {-128, 0, 0, 0, yes, no, yes}, {0, 0, -128, 0, yes, yes, no},
		// Up to the lower corner: it is in none.
		{0, -300, 0, -128, no, no, no}, {0, -300, 0, -127, yes, no, yes}, {0, 0, 0, -128, yes, yes, no}, {300, -128, 0, -128, no, no, no},
		{0, -128, 300, -127, yes, yes, yes}, {0, -128, -300, -127, no, no, no}, {0, -128, 200, -327, no, no, no},
		// By a corner, aslant: just that point in common, rising and falling, flat and steep.
		{-200, 126, 200, 130, no, no, no}, {-200, 130, 200, 126, yes, yes, yes}, {-200, -130, 200, -126, yes, yes, yes}, {-200, -126, 200, -130, no, no, no},
		{126, -200, 130, 200, yes, yes, yes}, {130, -200, 126, 200, yes, yes, yes}, {-130, -200, -126, 200, no, no, no}, {-126, -200, -130, 200, no, no, no},
		{-100, 28, 100, 228, no, no, no}, {-100, 228, 100, 28, yes, no, yes},
	}
}

func TestLinesAsWritten(t *testing.T) {
	for _, l := range append(plainLines(), closeLines()...) {
		for _, p := range pixels() {
			a, b := from(p, l.ax, l.ay), from(p, l.bx, l.by)
			if max(abs(a.X), abs(a.Y), abs(b.X), abs(b.Y)) > farthest {
				continue
			}
			checkLine(t, a, b, p[0], p[1], l.meets, l.exits, l.back)
			if cutMeets(a, b, p[0], p[1]) != l.meets {
				t.Errorf("the line of the table %v is wrong", l)
			}
		}
	}
}

// TestExamplesOfTheDocument has lines whose pixels other chapters tell.
func TestExamplesOfTheDocument(t *testing.T) {
	cases := []struct {
		a, b api.Point
		l    [][2]int
	}{
		{pt(128, 128), pt(640, 384), [][2]int{{0, 0}, {1, 1}}},
		{pt(0, 128), pt(1024, 128), [][2]int{{-1, 0}, {0, 0}, {1, 0}, {2, 0}}},
	}
	for _, c := range cases {
		want := map[[2]int]bool{}
		for _, p := range c.l {
			want[p] = true
		}
		for x := -3; x <= 6; x++ {
			for y := -3; y <= 4; y++ {
				if Exits(c.a, c.b, x, y) != want[[2]int{x, y}] {
					t.Errorf("P13.1: Exits(%v, %v, %d, %d): %v", c.a, c.b, x, y, !want[[2]int{x, y}])
				}
			}
		}
	}
}

// TestAllLinesBetweenEdges has lines between any two points of a net about a pixel, that has the diamond's boundaries and both
// sides of them, against that diamond and those around.
func TestAllLinesBetweenEdges(t *testing.T) {
	l := []int{-256, -192, -129, -128, -127, -65, -64, -63, -1, 0, 1, 63, 64, 65, 127, 128, 129, 192, 256}
	var points []api.Point
	for _, x := range l {
		for _, y := range l {
			points = append(points, from([2]int{-1, 0}, x, y))
		}
	}
	met := 0
	for i, a := range points {
		for _, b := range points[i:] {
			for k := range 9 {
				if checkSlow(t, a, b, k%3-2, k/3-1) {
					met++
				}
			}
		}
	}
	if met < 50000 {
		t.Errorf("%d diamonds are met: too few to tell anything", met)
	}
}

// corners are those of a diamond, counted from its middle.
func corners() [4][2]int {
	return [4][2]int{{128, 0}, {0, 128}, {-128, 0}, {0, -128}}
}

// TestLinesByCorners has lines in every direction that go just through a corner, begin or end there, and go one unit beside.
func TestLinesByCorners(t *testing.T) {
	met, all := 0, 0
	for _, p := range [][2]int{{0, 0}, {-3, 2}, {40000, -70000}} {
		for _, corner := range corners() {
			for dx := -7; dx <= 7; dx++ {
				for dy := -7; dy <= 7; dy++ {
					for i := range 25 * 9 {
						back, on := [5]int{0, 1, 7, 90, 5000}[i%5], [5]int{0, 1, 7, 90, 5000}[i/5%5]
						x, y := corner[0]+i/25%3-1, corner[1]+i/75-1
						if all++; checkSlow(t, from(p, x-back*dx, y-back*dy), from(p, x+on*dx, y+on*dy), p[0], p[1]) {
							met++
						}
					}
				}
			}
		}
	}
	if met < all/10 || met > all*9/10 {
		t.Errorf("of %d lines by corners %d meet it: too few or too many to tell anything", all, met)
	}
}

// beside is the least step from a line of this way, p and q without a common divisor, to the next points of whole numbers: p times
// its Y, less q times its X, is 1 or -1.
func beside(p, q int) api.Point {
	if q == 0 {
		return pt(0, 1)
	}
	step := beside(q, p%q)
	return pt(step.Y+p/q*step.X, step.X)
}

// TestLongLinesJustByCorners has lines that go through a corner and beside it by as little as may be, far longer than they are off.
func TestLongLinesJustByCorners(t *testing.T) {
	c, met, all := chance(15), 0, 0
	for i := range 20000 {
		p, q := c.from(1, 1<<28-600), c.from(1, 1<<28-600)>>(i%28)
		if new(big.Int).GCD(nil, nil, big.NewInt(int64(p)), big.NewInt(int64(q))).Int64() != 1 {
			continue
		}
		step := beside(p, q)
		if abs(p*step.Y-q*step.X) != 1 || abs(step.X) > p || abs(step.Y) > q {
			t.Fatalf("%v isn't beside a line of the way %d, %d", step, p, q)
		}
		for k := range 3 * 4 * 2 * 4 {
			corner, off := corners()[k/3%4], k%3-1
			way, out := pt(p, q), pt(off*step.X, off*step.Y)
			if k/12%2 == 1 {
				way, out = pt(q, p), pt(off*step.Y, off*step.X)
			}
			if k/24%2 == 1 {
				way.X, out.X = -way.X, -out.X
			}
			x, y := 128+corner[0]+out.X, 128+corner[1]+out.Y
			a, b := pt(x-way.X, y-way.Y), pt(x+way.X, y+way.Y)
			if k/48 == 1 {
				a, b = b, a
			}
			if all++; checkSlow(t, a, b, 0, 0) {
				met++
			}
		}
	}
	if all < 100000 || met < all/4 || met > all*3/4 {
		t.Errorf("of %d long lines %d meet the pixel: too few or too many to tell anything", all, met)
	}
}

// TestLinesOfAllDirections has each direction of a circle of steps, through points of a net.
func TestLinesOfAllDirections(t *testing.T) {
	for dx := -12; dx <= 12; dx++ {
		for dy := -12; dy <= 12; dy++ {
			for x := -160; x <= 160; x += 32 {
				for y := -160; y <= 160; y += 32 {
					checkSlow(t, pt(128+x, 128+y), pt(128+x+16*dx, 128+y+16*dy), 0, 0)
					checkSlow(t, pt(128+x-32*dx, 128+y-32*dy), pt(128+x+32*dx, 128+y+32*dy), 0, 0)
				}
			}
		}
	}
}

// nearLine is a pixel somewhere along the line from a to b, or beside it.
func (c *chance) nearLine(a, b api.Point) (int, int) {
	way, along := max(abs(b.X-a.X), abs(b.Y-a.Y), 1), 0
	along = c.from(-way/16, way+way/16)
	x := a.X + floorDiv((b.X-a.X)*along, way)
	y := a.Y + floorDiv((b.Y-a.Y)*along, way)
	return floorDiv(x, 256) + c.from(-5, 5)/4, floorDiv(y, 256) + c.from(-5, 5)/4
}

func TestLinesByChance(t *testing.T) {
	c, met := chance(1), 0
	const all = 600000
	for i := range all {
		far := farthest >> (i % 23)
		a := c.point(far)
		b := c.point(far)
		switch i / 23 % 8 {
		case 0:
			b.X = a.X
		case 1:
			b.Y = a.Y
		case 2:
			b = pt(a.X+(b.Y-a.Y)/4, a.Y+(b.Y-a.Y)/4)
		case 3:
			b = pt(a.X-(b.Y-a.Y)/4, a.Y+(b.Y-a.Y)/4)
		}
		if max(abs(b.X), abs(b.Y)) > farthest {
			b = a
		}
		x, y := c.nearLine(a, b)
		if checkSlow(t, a, b, x, y) {
			met++
		}
	}
	if met < all/5 || met > all*4/5 {
		t.Errorf("of %d lines by chance %d meet the pixel: too few or too many to tell anything", all, met)
	}
}

// checkCut holds a line against cutMeets, and answers that.
func checkCut(t *testing.T, a, b api.Point, x, y int) bool {
	t.Helper()
	meets := cutMeets(a, b, x, y)
	checkLine(t, a, b, x, y, meets, meets && !cutMeets(b, b, x, y), meets && !cutMeets(a, a, x, y))
	return meets
}

// TestLinesWithoutAnEnd has lines as far as may be, against numbers without an end.
func TestLinesWithoutAnEnd(t *testing.T) {
	l := []int{-farthest, 1 - farthest, 128 - farthest, -128, 0, 127, 128, farthest - 128, farthest - 1, farthest}
	places := []int{-most, 1 - most, -1<<21 - 1, -1 << 21, -1, 0, 1, 1<<21 - 1, 1 << 21, most - 1, most}
	c, met := chance(3), 0
	for i := range 10000 {
		a, b := pt(l[i%10], l[i/10%10]), pt(l[i/100%10], l[i/1000])
		x, y := c.nearLine(a, b)
		if checkCut(t, a, b, x, y) {
			met++
		}
		x, y = places[c.from(0, 10)], places[c.from(0, 10)]
		checkCut(t, a, b, x, y)
	}
	if met < 1000 {
		t.Errorf("of 10000 lines %d meet the pixel: too few to tell anything", met)
	}
}

// TestBoundsOfPixels has pixels at their bounds, where no line comes, against lines as far as may be and against short ones.
func TestBoundsOfPixels(t *testing.T) {
	ends := []api.Point{pt(farthest, farthest), pt(-farthest, farthest), pt(farthest, -farthest), pt(-farthest, -farthest),
		pt(farthest, 128), pt(-farthest, 128), pt(128, farthest), pt(128, -farthest), pt(128, 128), pt(0, 0)}
	places := []int{-most, 1 - most, 0, -1, 5, most - 1, most}
	for _, a := range ends {
		for _, b := range ends {
			for _, x := range places {
				for _, y := range places {
					if max(abs(x), abs(y)) > most/2 {
						checkLine(t, a, b, x, y, false, false, false)
					}
					checkCut(t, a, b, x, y)
				}
			}
		}
	}
	// The longest lines there are, through many middles and corners.
	low, high := pt(-farthest, -farthest), pt(farthest, farthest)
	for _, n := range []int{-1 << 21, 1 - 1<<21, -1, 0, 1, 77, 1<<21 - 1} {
		checkLine(t, low, high, n, n, true, true, true)
		checkLine(t, low, high, n+1, n, false, false, false)
		checkLine(t, low, high, n, n+1, false, false, false)
		checkLine(t, pt(-farthest, 0), pt(farthest, 0), n, 0, false, false, false)
		checkLine(t, pt(-farthest, 0), pt(farthest, 0), n, -1, true, true, true)
		checkLine(t, pt(0, -farthest), pt(0, farthest), 0, n, false, false, false)
		checkLine(t, pt(0, -farthest), pt(0, farthest), -1, n, true, true, true)
	}
	// A rise of one unit, all along: one moved up or down, and each half has a row of its own.
	low, high = pt(-farthest, 255), pt(farthest, 257)
	checkLine(t, low, high, -1, 0, true, true, true)
	checkLine(t, low, high, 0, 1, true, true, true)
	checkLine(t, low, high, 0, 0, false, false, false)
	checkLine(t, low, high, -1, 1, false, false, false)
	checkLine(t, low, high, -1<<21-1, 0, false, false, false)
	checkLine(t, pt(-farthest, 128), high, -1<<21-1, 0, true, true, false)
	checkLine(t, low, pt(farthest, 128), 1<<21-1, 0, true, false, true)
}

// TestBothSlowWaysAgree holds both ways of reckoning what Meets must answer against each other.
func TestBothSlowWaysAgree(t *testing.T) {
	c := chance(5)
	for i := range 20000 {
		far := 600 + farthest>>(i%40)
		a, b := c.point(min(far, farthest)), c.point(min(far, farthest))
		if i%3 == 0 {
			a, b = pt(floorDiv(a.X, 64)*64, floorDiv(a.Y, 64)*64), pt(floorDiv(b.X, 64)*64, floorDiv(b.Y, 64)*64)
		}
		x, y := c.nearLine(a, b)
		if slowMeets(a, b, x, y) != cutMeets(a, b, x, y) {
			t.Errorf("of %v, %v, %d, %d both ways differ", a, b, x, y)
		}
	}
}

// around calls do for each pixel of the rectangle about a and b, and two more on each side.
func around(a, b api.Point, do func(x, y int)) {
	for x := floorDiv(min(a.X, b.X), 256) - 2; x <= floorDiv(max(a.X, b.X), 256)+2; x++ {
		for y := floorDiv(min(a.Y, b.Y), 256) - 2; y <= floorDiv(max(a.Y, b.Y), 256)+2; y++ {
			do(x, y)
		}
	}
}

// netted is a point on a net of these steps, no further than far.
func (c *chance) netted(step, far int) api.Point {
	return pt(step*c.from(-far/step, far/step), step*c.from(-far/step, far/step))
}

// TestPartsOfLines has lines of two parts, with the point between them anywhere: each diamond is met by the line just if a part meets
// it, and exited from just by one part.
func TestPartsOfLines(t *testing.T) {
	c, between := chance(7), 0
	for i := range 6000 {
		step := []int{1, 16, 64, 128}[i%4]
		// Just such a way has points with whole numbers.
		a, way := c.netted(step, 900), c.netted(step, 200)
		first, second := c.from(0, 5), c.from(0, 5)
		m := pt(a.X+first*way.X, a.Y+first*way.Y)
		b := pt(m.X+second*way.X, m.Y+second*way.Y)
		around(a, b, func(x, y int) {
			meets, exits := Meets(a, b, x, y), Exits(a, b, x, y)
			left, right := Meets(a, m, x, y), Meets(m, b, x, y)
			if meets != (left || right) || Meets(b, m, x, y) != right || Meets(m, a, x, y) != left {
				t.Errorf("P13.2: %v, %v meets %d, %d: %v; parted at %v: %v, %v", a, b, x, y, meets, m, left, right)
			}
			one, two := Exits(a, m, x, y), Exits(m, b, x, y)
			if one && two || exits != (one || two) {
				t.Errorf("P13.2: %v, %v exits from %d, %d: %v; parted at %v: %v, %v", a, b, x, y, exits, m, one, two)
			}
			if left && right {
				between++
			}
		})
	}
	if between < 500 {
		t.Errorf("%d diamonds are met by both parts: too few to tell anything", between)
	}
}

// rowAt is the row in which the line, moved a little, is at this middle of a column; a is left of b.
func rowAt(a, b api.Point, middle int) int {
	n, d := a.Y*(b.X-a.X)+(b.Y-a.Y)*(middle-a.X), 256*(b.X-a.X)
	// Where rows touch, a rising line is above by the move, all others are below.
	if n%d == 0 && b.Y <= a.Y {
		return n/d - 1
	}
	return floorDiv(n, d)
}

// columnAt is the column in which the line, moved a little, is at this middle of a row; a is below b.
func columnAt(a, b api.Point, middle int) int {
	n, d := a.X*(b.Y-a.Y)+(b.X-a.X)*(middle-a.Y), 256*(b.Y-a.Y)
	if n%d == 0 {
		return n/d - 1
	}
	return floorDiv(n, d)
}

// metIn is the places from least to greatest of which meets tells so.
func metIn(least, greatest int, meets func(n int) bool) []int {
	var l []int
	for n := floorDiv(least, 256) - 2; n <= floorDiv(greatest, 256)+2; n++ {
		if meets(n) {
			l = append(l, n)
		}
	}
	return l
}

// checkColumns holds what a line that is as wide as high, or wider, meets in each column against what it must.
func checkColumns(t *testing.T, a, b api.Point) {
	t.Helper()
	if a.X > b.X {
		a, b = b, a
	}
	for x := floorDiv(a.X, 256) - 2; x <= floorDiv(b.X, 256)+2; x++ {
		l := metIn(min(a.Y, b.Y), max(a.Y, b.Y), func(y int) bool { return Meets(a, b, x, y) })
		if middle := 256*x + 128; a.X <= middle && middle < b.X {
			if len(l) != 1 || l[0] != rowAt(a, b, middle) {
				t.Errorf("P13.2: %v, %v meets in column %d the rows %v, not %d", a, b, x, l, rowAt(a, b, middle))
			}
			continue
		}
		// Of a column whose middle it doesn't cross it can have no more than an end.
		for _, y := range l {
			if !isEnd(a, b, x, y) {
				t.Errorf("P13.2: %v, %v meets %d, %d, in which no end is", a, b, x, y)
			}
		}
	}
}

// checkRows holds what a line that is as high as wide, or higher, meets in each row against what it must.
func checkRows(t *testing.T, a, b api.Point) {
	t.Helper()
	if a.Y > b.Y {
		a, b = b, a
	}
	for y := floorDiv(a.Y, 256) - 2; y <= floorDiv(b.Y, 256)+2; y++ {
		l := metIn(min(a.X, b.X), max(a.X, b.X), func(x int) bool { return Meets(a, b, x, y) })
		if middle := 256*y + 128; a.Y <= middle && middle < b.Y {
			if len(l) != 1 || l[0] != columnAt(a, b, middle) {
				t.Errorf("P13.2: %v, %v meets in row %d the columns %v, not %d", a, b, y, l, columnAt(a, b, middle))
			}
			continue
		}
		for _, x := range l {
			if !isEnd(a, b, x, y) {
				t.Errorf("P13.2: %v, %v meets %d, %d, in which no end is", a, b, x, y)
			}
		}
	}
}

// isEnd tells whether a or b is in the diamond of x, y.
func isEnd(a, b api.Point, x, y int) bool {
	for _, p := range [2]api.Point{a, b} {
		if atX, atY, ok := In(p); ok && atX == x && atY == y {
			return true
		}
	}
	return false
}

// TestOnePixelAColumnOrARow has lines in all directions, of any numbers and of such as lie on boundaries.
func TestOnePixelAColumnOrARow(t *testing.T) {
	c, wide, high := chance(9), 0, 0
	for i := range 12000 {
		step := []int{1, 16, 64, 128, 256}[i%5]
		a, b := c.netted(step, 1800), c.netted(step, 1800)
		switch i / 5 % 8 {
		case 0:
			b.X = a.X
		case 1:
			b.Y = a.Y
		case 2:
			b.X = a.X + b.Y - a.Y
		case 3:
			b.X = a.X - b.Y + a.Y
		}
		if dx, dy := abs(b.X-a.X), abs(b.Y-a.Y); dx >= dy && dx > 0 {
			wide++
			checkColumns(t, a, b)
			checkColumns(t, b, a)
		}
		if dx, dy := abs(b.X-a.X), abs(b.Y-a.Y); dy >= dx && dy > 0 {
			high++
			checkRows(t, a, b)
			checkRows(t, b, a)
		}
	}
	if wide < 4000 || high < 4000 {
		t.Errorf("%d lines are wide, %d high: too few to tell anything", wide, high)
	}
}

// TestExitsAreWhatIsMetButTheLast has, of lines by chance, all pixels about them.
func TestExitsAreWhatIsMetButTheLast(t *testing.T) {
	c, ended := chance(11), 0
	for i := range 4000 {
		step := []int{1, 16, 64, 128}[i%4]
		a, b := c.netted(step, 1000), c.netted(step, 1000)
		lastX, lastY, last := In(b)
		around(a, b, func(x, y int) {
			isLast := last && x == lastX && y == lastY
			if meets, exits := Meets(a, b, x, y), Exits(a, b, x, y); exits != (meets && !isLast) || isLast && !meets {
				t.Errorf("P13.1: %v, %v: meets %d, %d: %v, exits: %v; its end is in it: %v", a, b, x, y, meets, exits, isLast)
			}
			if isLast {
				ended++
			}
		})
	}
	if ended < 1000 {
		t.Errorf("%d lines end in a diamond: too few to tell anything", ended)
	}
}

// TestMovedByWholePixels has lines and the same ones elsewhere.
func TestMovedByWholePixels(t *testing.T) {
	c := chance(13)
	for i := range 30000 {
		a, b := c.netted(1+i%65, 2000), c.netted(1+i%65, 2000)
		x, y := c.nearLine(a, b)
		dx, dy := c.from(-1<<20, 1<<20), c.from(-1<<20, 1<<20)
		p, q := pt(a.X+256*dx, a.Y+256*dy), pt(b.X+256*dx, b.Y+256*dy)
		if Meets(a, b, x, y) != Meets(p, q, x+dx, y+dy) || Exits(a, b, x, y) != Exits(p, q, x+dx, y+dy) {
			t.Errorf("P13.1: of %v, %v and %d, %d, moved by %d, %d, it's otherwise", a, b, x, y, dx, dy)
		}
	}
}
