package dot

import (
	"fmt"
	"math"
	"slices"
	"testing"

	"rastrum/api"
)

const (
	place    = 1 << 28 // the greatest X and Y, written out
	deepest  = 1<<24 - 1
	border   = 1 << 22 // the greatest number of a rectangle
	broadest = 64
	outmost  = 1 << 20 // the pixel in which the greatest X and Y lie
)

// everywhere is the greatest rectangle, and here one about the middle, that holds each point near it.
var (
	everywhere = api.Rect{X0: -border, Y0: -border, X1: border, Y1: border}
	here       = api.Rect{X0: -90, Y0: -90, X1: 90, Y1: 90}
)

// job is a point, and how it is drawn.
type job struct {
	v          api.Win
	size, kind int
}

// in is what Point answers of the job in r.
func (j job) in(r api.Rect) []api.Frag {
	return Point(j.v, j.size, j.kind, r)
}

// floorDiv is n divided by d, which is 1 or more, rounded down.
func floorDiv(n, d int) int {
	rest := (n%d + d) % d
	return (n - rest) / d
}

// chance is a row of numbers that look like chance and are the same at each run.
type chance uint64

// from is the next number from least to greatest.
func (c *chance) from(least, greatest int) int {
	*c ^= *c << 13
	*c ^= *c >> 7
	*c ^= *c << 17
	return least + int(*c>>1)%(greatest-least+1)
}

// win is a place at most so far from the middle by X and by Y, of any depth and color.
func (c *chance) win(far int) api.Win {
	w := api.Win{X: c.from(-far, far), Y: c.from(-far, far), Z: c.from(0, []int{10, 1000, deepest}[c.from(0, 2)])}
	for i := range w.C {
		w.C[i] = c.from(0, 255)
	}
	return w
}

// job is a point at most so far from the middle, of any kind, in a pixel's middle, at its edges and corners, at samples, or anywhere.
func (c *chance) job(far int) job {
	j := job{c.win(far), []int{1, 2, 3, 4, c.from(1, 9), c.from(1, broadest)}[c.from(0, 5)], c.from(0, 2)}
	switch c.from(0, 6) {
	case 0:
		j.v.X = j.v.X / 128 * 128
	case 1:
		j.v.Y = j.v.Y / 128 * 128
	case 2:
		j.v.X, j.v.Y = j.v.X/128*128, j.v.Y/128*128
	case 3:
		j.v.X, j.v.Y = j.v.X/256*256+c.from(-1, 1), j.v.Y/256*256+c.from(-1, 1)
	case 4:
		j.v.X, j.v.Y = j.v.X/32*32+16, j.v.Y/32*32+16
	}
	j.v.X, j.v.Y = max(-place, min(j.v.X, place)), max(-place, min(j.v.Y, place))
	return j
}

// rect is one whose numbers are no further from x and y than far.
func (c *chance) rect(x, y, far int) api.Rect {
	x0, y0 := c.from(-far, far-1), c.from(-far, far-1)
	return api.Rect{X0: x + x0, Y0: y + y0, X1: x + c.from(x0+1, far), Y1: y + c.from(y0+1, far)}
}

// slowFirst is, by the chapter's words, the first pixel of a square point, by one of the ways.
func slowFirst(n, size int) int {
	if size%2 == 1 {
		return floorDiv(n, 256) - (size-1)/2
	}
	return floorDiv(n+128, 256) - size/2
}

// slowBox is the pixels of the job's square point.
func (j job) slowBox() api.Rect {
	x, y := slowFirst(j.v.X, j.size), slowFirst(j.v.Y, j.size)
	return api.Rect{X0: x, Y0: y, X1: x + j.size, Y1: y + j.size}
}

// slowCover is how many samples of the pixel x, y are nearer to the job's point than 128 units for each pixel of its size.
func (j job) slowCover(x, y int) int {
	n := 0
	for i := range 64 {
		right, up := 256*x+i%8*32+16-j.v.X, 256*y+i/8*32+16-j.v.Y
		if right*right+up*up < 128*j.size*128*j.size {
			n++
		}
	}
	return n
}

// slowShade is a sprite's color at that pixel, by one of the ways: n is where its point lies there.
func slowShade(n, size, pixel int) int {
	shade := floorDiv(256*pixel+128-(n-128*size), size)
	switch {
	case shade < 0:
		return 0
	case shade > 255:
		return 255
	}
	return shade
}

// slowFrag is the job's fragment of the pixel x, y, by the chapter's words, and whether it has one.
func (j job) slowFrag(x, y int) (api.Frag, bool) {
	f := api.Frag{X: x, Y: y, Z: j.v.Z, C: j.v.C, Cov: 64}
	box := j.slowBox()
	inBox := box.X0 <= x && x < box.X1 && box.Y0 <= y && y < box.Y1
	switch j.kind {
	case 0:
		return f, inBox
	case 1:
		f.Cov = j.slowCover(x, y)
		return f, f.Cov > 0
	}
	f.C[0], f.C[1] = slowShade(j.v.X, j.size, x), slowShade(j.v.Y, j.size, y)
	return f, inBox
}

// slow is the job's fragments in r: each pixel about the point is asked.
func (j job) slow(r api.Rect) []api.Frag {
	x, y, far := floorDiv(j.v.X, 256), floorDiv(j.v.Y, 256), j.size/2+3
	var l []api.Frag
	for py := max(r.Y0, y-far); py < min(r.Y1, y+far+1); py++ {
		for px := max(r.X0, x-far); px < min(r.X1, x+far+1); px++ {
			if f, ok := j.slowFrag(px, py); ok {
				l = append(l, f)
			}
		}
	}
	return l
}

// inside is those of l whose pixels are in r.
func inside(l []api.Frag, r api.Rect) []api.Frag {
	var some []api.Frag
	for _, f := range l {
		if r.X0 <= f.X && f.X < r.X1 && r.Y0 <= f.Y && f.Y < r.Y1 {
			some = append(some, f)
		}
	}
	return some
}

// covered is where fragments are, and how many samples each covers.
func covered(l []api.Frag) [][3]int {
	var some [][3]int
	for _, f := range l {
		some = append(some, [3]int{f.X, f.Y, f.Cov})
	}
	return some
}

// shades is where fragments are, and the first two numbers of their colors.
func shades(l []api.Frag) [][4]int {
	var some [][4]int
	for _, f := range l {
		some = append(some, [4]int{f.X, f.Y, f.C[0], f.C[1]})
	}
	return some
}

// win is a place at x, y, with that depth and color.
func win(x, y, z int, c ...int) api.Win {
	w := api.Win{X: x, Y: y, Z: z}
	copy(w.C[:], c)
	return w
}

// unlike tells where fragments are other ones than they must be, of which there may be many.
func unlike(got, want []api.Frag) string {
	i := 0
	for i < min(len(got), len(want)) && got[i] == want[i] {
		i++
	}
	return fmt.Sprintf("%d fragments, not %d; from %d on %v, not %v", len(got), len(want), i, got[i:min(i+3, len(got))], want[i:min(i+3, len(want))])
}

// checkIn holds what Point answers in r against these.
func checkIn(t *testing.T, j job, r api.Rect, want []api.Frag) {
	t.Helper()
	if got := j.in(r); !slices.Equal(got, want) {
		t.Errorf("P19.1: Point of %+v in %v: %s", j, r, unlike(got, want))
	}
}

// checkWhole holds a point, as a whole and in some rectangles, against the pixels that are about it.
func checkWhole(t *testing.T, j job, some ...api.Rect) {
	t.Helper()
	if !Right(j.v, j.size, j.kind) {
		t.Errorf("P19.1: %+v may not be", j)
	}
	if got, want := Box(j.v, j.size), j.slowBox(); got != want {
		t.Errorf("P19.1: Box of %+v: %v, not %v", j, got, want)
	}
	whole := j.slow(everywhere)
	for _, r := range append(some, everywhere) {
		checkIn(t, j, r, inside(whole, r))
	}
}

func TestExamples(t *testing.T) {
	v := win(128, 128, 5, 1, 2, 3, 4)
	one := api.Frag{Z: 5, C: api.Color{1, 2, 3, 4}, Cov: 64}
	if got := Box(v, 1); got != (api.Rect{X1: 1, Y1: 1}) {
		t.Errorf("P19.1: Box of size 1 at 128 128: %v", got)
	}
	checkIn(t, job{v, 1, 0}, everywhere, []api.Frag{one})
	if got := Box(v, 2); got != (api.Rect{X1: 2, Y1: 2}) {
		t.Errorf("P19.1: Box of size 2 at 128 128: %v", got)
	}
	if got := covered(Point(v, 2, 0, everywhere)); !slices.Equal(got, [][3]int{{0, 0, 64}, {1, 0, 64}, {0, 1, 64}, {1, 1, 64}}) {
		t.Errorf("P19.1: Point of size 2 at 128 128: %v", got)
	}
}

func TestFirstPixelsWritten(t *testing.T) {
	for _, c := range []struct{ at, size, want int }{
		// Odd: the point's own pixel is in the middle, from its first unit to its last one.
		{0, 1, 0}, {1, 1, 0}, {128, 1, 0}, {255, 1, 0}, {256, 1, 1}, {257, 1, 1}, {511, 1, 1}, {512, 1, 2},
		{-1, 1, -1}, {-128, 1, -1}, {-255, 1, -1}, {-256, 1, -1}, {-257, 1, -2}, {-512, 1, -2}, {-513, 1, -3},
		{0, 3, -1}, {255, 3, -1}, {256, 3, 0}, {-1, 3, -2}, {-256, 3, -2}, {-257, 3, -3}, {600, 5, 0}, {-600, 5, -5},
		{128, 7, -3}, {128, 63, -31}, {-128, 63, -32}, {2560, 63, -21}, {2559, 63, -22},
		// Even: the nearest corner is in the middle, the greater one where two are as near.
		{0, 2, -1}, {1, 2, -1}, {127, 2, -1}, {128, 2, 0}, {129, 2, 0}, {256, 2, 0}, {383, 2, 0}, {384, 2, 1},
		{-1, 2, -1}, {-128, 2, -1}, {-129, 2, -2}, {-256, 2, -2}, {-384, 2, -2}, {-385, 2, -3},
		{0, 4, -2}, {127, 4, -2}, {128, 4, -1}, {-128, 4, -2}, {-129, 4, -3}, {640, 4, 1}, {639, 4, 0}, {-640, 4, -4}, {-641, 4, -5},
		{0, 6, -3}, {128, 64, -31}, {127, 64, -32}, {-128, 64, -32}, {-129, 64, -33},
		// At the bounds.
		{place, 1, outmost}, {place, 2, outmost - 1}, {place, 63, outmost - 31}, {place, 64, outmost - 32},
		{-place, 1, -outmost}, {-place, 2, -outmost - 1}, {-place, 63, -outmost - 31}, {-place, 64, -outmost - 32},
		{place - 1, 1, outmost - 1}, {place - 1, 2, outmost - 1}, {place - 128, 2, outmost - 1}, {place - 129, 2, outmost - 2},
		{1 - place, 1, -outmost}, {1 - place, 64, -outmost - 32}, {127 - place, 64, -outmost - 32}, {128 - place, 64, -outmost - 31},
	} {
		byX, byY := api.Rect{X0: c.want, X1: c.want + c.size}, api.Rect{Y0: c.want, Y1: c.want + c.size}
		other := 100 - c.size*128
		byX.Y0, byX.Y1 = slowFirst(other, c.size), slowFirst(other, c.size)+c.size
		byY.X0, byY.X1 = byX.Y0, byX.Y1
		if got := Box(win(c.at, other, 0), c.size); got != byX {
			t.Errorf("P19.1: Box at %d %d, %d wide: %v, not %v", c.at, other, c.size, got, byX)
		}
		if got := Box(win(other, c.at, 0), c.size); got != byY {
			t.Errorf("P19.1: Box at %d %d, %d high: %v, not %v", other, c.at, c.size, got, byY)
		}
		for kind := range 3 {
			checkWhole(t, job{win(c.at, other, 7, 8), c.size, kind})
			checkWhole(t, job{win(other, c.at, 7, 8), c.size, kind})
		}
	}
}

func TestSquareWritten(t *testing.T) {
	v := win(-300, 700, 9, 255, 0, 17, 200)
	frag := func(x, y int) api.Frag {
		return api.Frag{X: x, Y: y, Z: 9, C: api.Color{255, 0, 17, 200}, Cov: 64}
	}
	whole := []api.Frag{frag(-3, 1), frag(-2, 1), frag(-1, 1), frag(-3, 2), frag(-2, 2), frag(-1, 2), frag(-3, 3), frag(-2, 3), frag(-1, 3)}
	j := job{v, 3, 0}
	checkIn(t, j, everywhere, whole)
	// The whole, a row, a column, a corner of it, a single pixel, and beside it on each side.
	checkIn(t, j, api.Rect{X0: -3, Y0: 1, X1: 0, Y1: 4}, whole)
	checkIn(t, j, api.Rect{X0: -9, Y0: 2, X1: 9, Y1: 3}, whole[3:6])
	checkIn(t, j, api.Rect{X0: -1, Y0: -9, X1: 9, Y1: 9}, []api.Frag{whole[2], whole[5], whole[8]})
	checkIn(t, j, api.Rect{X0: -2, Y0: 2, X1: 9, Y1: 9}, []api.Frag{whole[4], whole[5], whole[7], whole[8]})
	checkIn(t, j, api.Rect{X0: -3, Y0: 3, X1: -2, Y1: 4}, whole[6:7])
	for _, r := range []api.Rect{{X0: -9, Y0: -9, X1: -3, Y1: 9}, {X0: 0, Y0: -9, X1: 9, Y1: 9}, {X0: -9, Y0: -9, X1: 9, Y1: 1}, {X0: -9, Y0: 4, X1: 9, Y1: 9}, {}} {
		checkIn(t, j, r, nil)
	}
}

func TestRoundWritten(t *testing.T) {
	for _, c := range []struct {
		x, y, size int
		want       [][3]int
	}{
		// In the middle: by each quarter all but three samples at the corner.
		{128, 128, 1, [][3]int{{0, 0, 52}}}, {-128, 384, 1, [][3]int{{-1, 1, 52}}},
		// At an edge, and at a corner.
		{256, 128, 1, [][3]int{{0, 0, 26}, {1, 0, 26}}}, {128, 0, 1, [][3]int{{0, -1, 26}, {0, 0, 26}}},
		{0, 0, 1, [][3]int{{-1, -1, 13}, {0, -1, 13}, {-1, 0, 13}, {0, 0, 13}}},
		// At a sample: those that lie 128 units off, by X or by Y, aren't nearer than that.
		{144, 144, 1, [][3]int{{0, 0, 45}}}, {112, 112, 1, [][3]int{{0, 0, 45}}},
		// A unit on: of a row and a column one sample more is nearer.
		{143, 144, 1, [][3]int{{0, 0, 46}}}, {144, 143, 1, [][3]int{{0, 0, 46}}}, {145, 144, 1, [][3]int{{0, 0, 45}, {1, 0, 1}}},
		{144, 145, 1, [][3]int{{0, 0, 45}, {0, 1, 1}}}, {111, 112, 1, [][3]int{{-1, 0, 1}, {0, 0, 45}}}, {112, 111, 1, [][3]int{{0, -1, 1}, {0, 0, 45}}},
	} {
		j := job{win(c.x, c.y, 3, 4), c.size, 1}
		if got := covered(j.in(everywhere)); !slices.Equal(got, c.want) {
			t.Errorf("P19.1: Point of %+v: %v, not %v", j, got, c.want)
		}
		checkWhole(t, j)
	}
}

// TestJustNearer holds round points of which the only samples in the pixel 0 0 that may be near enough are those at its corner 240
// 240, or along that edge: just nearer, just as far, and further.
func TestJustNearer(t *testing.T) {
	for _, c := range []struct{ x, y, size, want int }{
		// To the right, and above.
		{367, 240, 1, 1}, {368, 240, 1, 0}, {369, 240, 1, 0}, {240, 367, 1, 1}, {240, 368, 1, 0}, {240, 369, 1, 0},
		{495, 240, 2, 1}, {496, 240, 2, 0}, {240, 495, 2, 1}, {240, 496, 2, 0},
		// The greatest reach is 8192: where 8191 are gone aside, there are 127 left above and below.
		{240 + 8191, 240, 64, 4}, {240 + 8192, 240, 64, 0}, {240, 240 + 8191, 64, 4}, {240, 240 + 8192, 64, 0},
		// Aslant: 3 and 4 make 5, 5 and 12 make 13, 8 and 15 make 17.
		{240 + 383, 240 + 512, 5, 1}, {240 + 384, 240 + 511, 5, 1}, {240 + 384, 240 + 512, 5, 0}, {240 + 385, 240 + 512, 5, 0},
		{240 + 384, 240 + 513, 5, 0}, {240 + 512, 240 + 384, 5, 0}, {240 + 512, 240 + 383, 5, 1},
		{240 + 768, 240 + 1024, 10, 0}, {240 + 768, 240 + 1023, 10, 1}, {240 + 640, 240 + 1536, 13, 0}, {240 + 640, 240 + 1535, 13, 1},
		{240 + 1024, 240 + 1920, 17, 0}, {240 + 1023, 240 + 1920, 17, 1},
		{240 + 4608, 240 + 6144, 60, 0}, {240 + 4607, 240 + 6144, 60, 1}, {240 + 4608, 240 + 6143, 60, 1},
	} {
		j := job{win(c.x, c.y, 3), c.size, 1}
		if c.want != j.slowCover(0, 0) {
			t.Errorf("P19.1: of %+v the chapter asks for %d", j, j.slowCover(0, 0))
			continue
		}
		var want []api.Frag
		if c.want > 0 {
			want = []api.Frag{{Z: 3, Cov: c.want}}
		}
		checkIn(t, j, api.Rect{X1: 1, Y1: 1}, want)
		// Seen from the other sides it is the same: 16 takes the place of 240.
		for i, r := range []api.Rect{{X0: 3, X1: 4, Y1: 1}, {Y0: -5, X1: 1, Y1: -4}} {
			turned := j
			if i == 0 {
				turned.v.X = 4*256 - c.x
			} else {
				turned.v.Y = -4*256 - c.y
			}
			for k := range want {
				want[k].X, want[k].Y = r.X0, r.Y0
			}
			checkIn(t, turned, r, want)
		}
	}
}

func TestSpriteWritten(t *testing.T) {
	for _, c := range []struct {
		x, y, size int
		want       [][4]int
	}{
		// In the middle, at the edges, at the pixel's last unit, and one beyond.
		{128, 128, 1, [][4]int{{0, 0, 128, 128}}}, {0, 0, 1, [][4]int{{0, 0, 255, 255}}}, {1, 2, 1, [][4]int{{0, 0, 255, 254}}},
		{255, 256, 1, [][4]int{{0, 1, 1, 255}}}, {-1, -256, 1, [][4]int{{-1, -1, 1, 255}}}, {-255, -254, 1, [][4]int{{-1, -1, 255, 254}}},
		{128, 256, 2, [][4]int{{0, 0, 128, 64}, {1, 0, 255, 64}, {0, 1, 128, 192}, {1, 1, 255, 192}}},
		{129, 127, 2, [][4]int{{0, -1, 127, 0}, {1, -1, 255, 0}, {0, 0, 127, 128}, {1, 0, 255, 128}}},
		{0, -129, 2, [][4]int{{-1, -2, 64, 0}, {0, -2, 192, 0}, {-1, -1, 64, 128}, {0, -1, 192, 128}}},
		// Of three the quotients leave something, and are rounded down.
		{128, 128, 3, [][4]int{{-1, -1, 42, 42}, {0, -1, 128, 42}, {1, -1, 213, 42}, {-1, 0, 42, 128}, {0, 0, 128, 128}, {1, 0, 213, 128},
			{-1, 1, 42, 213}, {0, 1, 128, 213}, {1, 1, 213, 213}}},
		{-1, 0, 3, [][4]int{{-2, -1, 0, 85}, {-1, -1, 85, 85}, {0, -1, 171, 85}, {-2, 0, 0, 170}, {-1, 0, 85, 170}, {0, 0, 171, 170},
			{-2, 1, 0, 255}, {-1, 1, 85, 255}, {0, 1, 171, 255}}},
	} {
		j := job{win(c.x, c.y, 3, 99, 98, 97, 96), c.size, 2}
		got := j.in(everywhere)
		if !slices.Equal(shades(got), c.want) {
			t.Errorf("P19.1: Point of %+v: %v, not %v", j, shades(got), c.want)
		}
		for _, f := range got {
			if f.C[2] != 97 || f.C[3] != 96 || f.Z != 3 || f.Cov != 64 {
				t.Errorf("P19.1: Point of %+v: %v", j, f)
			}
		}
		checkWhole(t, j)
	}
	// The longest row: from a nought that comes of 1 of 64 to 255 that comes of 256.
	for _, c := range []struct{ at, first, second, last int }{{127, 0, 4, 252}, {128, 4, 8, 255}, {129, 3, 7, 255}, {-128, 4, 8, 255}, {-129, 0, 4, 252}} {
		l := Point(win(c.at, 200, 0), 64, 2, api.Rect{X0: -99, Y0: 0, X1: 99, Y1: 1})
		if len(l) != 64 || l[0].C[0] != c.first || l[1].C[0] != c.second || l[63].C[0] != c.last {
			t.Errorf("P19.1: a sprite of 64 at %d 200: %v", c.at, shades(l))
		}
		l = Point(win(200, c.at, 0), 64, 2, api.Rect{X0: 0, Y0: -99, X1: 1, Y1: 99})
		if len(l) != 64 || l[0].C[1] != c.first || l[1].C[1] != c.second || l[63].C[1] != c.last {
			t.Errorf("P19.1: a sprite of 64 at 200 %d: %v", c.at, shades(l))
		}
	}
}

// TestAllPlacesOfAPixel holds points at each unit of a pixel's side, by X and by Y, and about the bounds of pixels below 0.
func TestAllPlacesOfAPixel(t *testing.T) {
	for at := -130; at <= 390; at++ {
		for _, size := range []int{1, 2, 3, 4, 7, 10} {
			for kind := range 3 {
				checkWhole(t, job{win(at, 300-at*3, 5, 1, 2, 3, 4), size, kind}, api.Rect{X1: 1, Y1: 1})
			}
		}
		if t.Failed() {
			return
		}
	}
}

// TestPlacesOfAPixel holds points in a net of two pixels each way.
func TestPlacesOfAPixel(t *testing.T) {
	l := []int{-256, -255, -240, -144, -129, -128, -127, -112, -17, -16, -15, -1, 0, 1, 15, 16, 17, 112, 127, 128, 129, 144, 240, 255}
	some := []api.Rect{{X1: 1, Y1: 1}, {X0: -1, Y0: -9, X1: 0, Y1: 9}, {X0: -9, Y0: -2, X1: 9, Y1: -1}, {X0: 50, Y0: 50, X1: 60, Y1: 60}}
	for _, x := range l {
		for _, y := range l {
			for size := 1; size <= 6; size++ {
				for kind := range 3 {
					checkWhole(t, job{win(x, y, x+256, y&255, x&255, 9, 255), size, kind}, some...)
				}
			}
		}
		if t.Failed() {
			return
		}
	}
}

func TestEachSize(t *testing.T) {
	c := chance(19)
	for size := 1; size <= broadest; size++ {
		for kind := range 3 {
			for _, v := range []api.Win{win(128, 128, 9, 1, 2, 3, 4), win(0, 0, 9, 255, 255, 255, 255), win(-1, 255, 9), c.win(3000)} {
				j := job{v, size, kind}
				checkWhole(t, j, api.Rect{X0: -2, Y0: -1, X1: 2, Y1: 3}, api.Rect{X0: -40, Y0: -40, X1: 0, Y1: 0})
			}
		}
		if t.Failed() {
			return
		}
	}
}

func TestManyPoints(t *testing.T) {
	c := chance(23)
	for range 4000 {
		j := c.job([]int{300, 3000, 100000, place}[c.from(0, 3)])
		x, y := floorDiv(j.v.X, 256), floorDiv(j.v.Y, 256)
		checkWhole(t, j, c.rect(x, y, 2), c.rect(x, y, 6), c.rect(x, y, 40), api.Rect{X0: x, Y0: y, X1: x + 1, Y1: y + 1})
		if t.Failed() {
			return
		}
	}
}

func TestAtTheBounds(t *testing.T) {
	for _, x := range []int{-place, 1 - place, 0, place - 1, place} {
		for _, y := range []int{-place, 1 - place, 0, place - 1, place} {
			for i, size := range []int{1, 2, 63, 64} {
				for kind := range 3 {
					j := job{win(x, y, deepest, 255, 255, 255, 255), size, kind}
					if i%2 == 0 {
						j.v = win(x, y, 0, 0, 0, 0, 0)
					}
					px, py := floorDiv(x, 256), floorDiv(y, 256)
					checkWhole(t, j, api.Rect{X0: px, Y0: py, X1: border, Y1: border}, api.Rect{X0: -border, Y0: -border, X1: px, Y1: py})
				}
			}
		}
	}
	white := api.Color{255, 255, 255, 255}
	for _, c := range []struct {
		j    job
		r    api.Rect
		want []api.Frag
	}{
		{job{win(place, place, deepest, 255, 255, 255, 255), 64, 0}, api.Rect{X0: outmost + 31, Y0: outmost + 31, X1: border, Y1: border},
			[]api.Frag{{X: outmost + 31, Y: outmost + 31, Z: deepest, C: white, Cov: 64}}},
		{job{win(-place, -place, 0), 64, 0}, api.Rect{X0: -border, Y0: -border, X1: -outmost - 31, Y1: -outmost - 31},
			[]api.Frag{{X: -outmost - 32, Y: -outmost - 32, Cov: 64}}},
		{job{win(place, place, 9), 1, 1}, everywhere, []api.Frag{{X: outmost - 1, Y: outmost - 1, Z: 9, Cov: 13}, {X: outmost, Y: outmost - 1, Z: 9, Cov: 13},
			{X: outmost - 1, Y: outmost, Z: 9, Cov: 13}, {X: outmost, Y: outmost, Z: 9, Cov: 13}}},
		{job{win(-place, place, deepest, 7, 7, 255, 0), 1, 2}, everywhere,
			[]api.Frag{{X: -outmost, Y: outmost, Z: deepest, C: api.Color{255, 255, 255, 0}, Cov: 64}}},
	} {
		checkIn(t, c.j, c.r, c.want)
	}
}

// TestRectanglesAtTheBounds holds rectangles, and single pixels, at the bounds: no point is there.
func TestRectanglesAtTheBounds(t *testing.T) {
	c := chance(29)
	for range 300 {
		j := c.job([]int{2500, place}[c.from(0, 1)])
		x, y := c.from(-5, 5)+floorDiv(j.v.X, 256), c.from(-5, 5)+floorDiv(j.v.Y, 256)
		checkWhole(t, j, api.Rect{X0: -border, Y0: -border, X1: x, Y1: y}, api.Rect{X0: x, Y0: y, X1: border, Y1: border},
			api.Rect{X0: -border, Y0: y, X1: border, Y1: y + 1}, api.Rect{X0: x, Y0: -border, X1: x + 1, Y1: border},
			api.Rect{X0: -border, Y0: -border, X1: 1 - border, Y1: 1 - border}, api.Rect{X0: border - 1, Y0: border - 1, X1: border, Y1: border},
			api.Rect{X0: -border, Y0: border - 1, X1: border, Y1: border}, api.Rect{X0: -border, Y0: -border, X1: 1 - border, Y1: border})
	}
}

// bounded is one of a job's numbers: which, and from where to where it may be.
type bounded struct {
	of              func(j *job) *int
	least, greatest int
}

// numbers are all of a job that have bounds; the last one is its kind.
func numbers() []bounded {
	l := []bounded{{func(j *job) *int { return &j.v.X }, -place, place}, {func(j *job) *int { return &j.v.Y }, -place, place},
		{func(j *job) *int { return &j.v.Z }, 0, deepest}, {func(j *job) *int { return &j.size }, 1, broadest}}
	for i := range 4 {
		l = append(l, bounded{func(j *job) *int { return &j.v.C[i] }, 0, 255})
	}
	return append(l, bounded{func(j *job) *int { return &j.kind }, 0, 2})
}

// wrongs is numbers that this one may not be: one below and above what may, further out, and at the ends of the int's range.
func (b bounded) wrongs() []int {
	return []int{b.least - 1, b.greatest + 1, b.least - 256, b.greatest + 256, -1 << 32, 1 << 32, 1<<32 + 1, 1<<41 + 1, 1<<48 + 1, math.MinInt,
		math.MinInt + 1, math.MaxInt - 1, math.MaxInt, math.MinInt + place, math.MaxInt - place, 1 << 62, -1 << 62}
}

// checkRight tells of a Right that isn't as it must be, and of fragments of what may not be.
func checkRight(t *testing.T, j job, want bool) {
	t.Helper()
	if got := Right(j.v, j.size, j.kind); got != want {
		t.Errorf("P19.1: Right(%v, %d, %d): %v", j.v, j.size, j.kind, got)
	}
	if want {
		return
	}
	for _, r := range []api.Rect{here, everywhere, {}, {X0: math.MinInt, Y0: math.MinInt, X1: math.MaxInt, Y1: math.MaxInt}, {X1: 1, Y1: 1}} {
		checkIn(t, j, r, nil)
	}
}

// checkNoBox tells of a Box of a place, depth, color or size that may not be.
func checkNoBox(t *testing.T, j job) {
	t.Helper()
	if got := Box(j.v, j.size); got != (api.Rect{}) {
		t.Errorf("P19.1: Box(%v, %d): %v", j.v, j.size, got)
	}
}

func TestRight(t *testing.T) {
	c := chance(31)
	l := numbers()
	for i, b := range l {
		for kind := range 3 {
			base := job{win(100, 100, 5, 1, 2, 3, 4), 3, kind}
			for _, n := range []int{b.least, b.least + 1, b.greatest - 1, b.greatest} {
				j := base
				*b.of(&j) = n
				checkRight(t, j, true)
				checkWhole(t, j)
			}
			for _, n := range b.wrongs() {
				for _, j := range []job{base, c.job(2000), c.job(place)} {
					box := Box(j.v, j.size)
					*b.of(&j) = n
					checkRight(t, j, false)
					if i < len(l)-1 {
						checkNoBox(t, j)
					} else if got := Box(j.v, j.size); got != box || got != j.slowBox() {
						t.Errorf("P19.1: Box(%v, %d), whatever the kind: %v, not %v", j.v, j.size, got, j.slowBox())
					}
				}
			}
		}
	}
	for i, b := range l {
		for _, other := range l[:i] {
			j := c.job(2000)
			*b.of(&j), *other.of(&j) = b.wrongs()[c.from(0, 16)], other.wrongs()[c.from(0, 16)]
			checkRight(t, j, false)
			checkNoBox(t, j)
		}
	}
	checkRight(t, job{}, false)
	checkNoBox(t, job{})
	// All at their bounds, the least ones and the greatest.
	var least, greatest job
	for _, b := range l {
		*b.of(&least), *b.of(&greatest) = b.least, b.greatest
	}
	checkRight(t, least, true)
	checkRight(t, greatest, true)
}

// wrongRects is rectangles that may not be, that points about the middle would be in, were it not for that.
func wrongRects() []api.Rect {
	l := []api.Rect{{}, {X0: 20, Y0: 20, X1: -20, Y1: -20}, {X0: 1, Y0: -20, X1: 1, Y1: 20}, {X0: -20, Y0: 1, X1: 20, Y1: 1},
		{X0: math.MinInt, Y0: math.MinInt, X1: math.MaxInt, Y1: math.MaxInt}, {X0: math.MaxInt, Y0: math.MaxInt, X1: math.MinInt, Y1: math.MinInt}}
	for i := range 4 {
		for _, n := range []int{20, 21, 40, border, border + 1, math.MaxInt - 63, math.MaxInt} {
			// Either end by either way is beyond the other one,
			if i > 1 {
				n = -n
			}
			l = append(l, about(i, n))
		}
		for _, n := range []int{border + 1, border + 64, math.MaxInt - 63, math.MaxInt} {
			// and too far out.
			if i < 2 {
				n = -n
			}
			l = append(l, about(i, n))
		}
	}
	return l
}

// about is a rectangle about the middle, of which the i-th number is n.
func about(i, n int) api.Rect {
	r := api.Rect{X0: -20, Y0: -20, X1: 20, Y1: 20}
	*[4]*int{&r.X0, &r.Y0, &r.X1, &r.Y1}[i] = n
	return r
}

func TestWrongRectangles(t *testing.T) {
	c := chance(77)
	for range 300 {
		j := c.job(3000)
		for _, r := range wrongRects() {
			checkIn(t, j, r, nil)
		}
	}
}

// TestGreaterRectangles holds what a rectangle shows against what a greater one shows there.
func TestGreaterRectangles(t *testing.T) {
	c := chance(11)
	some := 0
	for range 3000 {
		j := c.job([]int{3000, place}[c.from(0, 1)])
		greater := c.rect(floorDiv(j.v.X, 256), floorDiv(j.v.Y, 256), 30)
		l := j.in(greater)
		for range 5 {
			lesser := api.Rect{X0: c.from(greater.X0, greater.X1-1), Y0: c.from(greater.Y0, greater.Y1-1)}
			lesser.X1, lesser.Y1 = c.from(lesser.X0+1, greater.X1), c.from(lesser.Y0+1, greater.Y1)
			want := inside(l, lesser)
			some += min(1, len(want))
			checkIn(t, j, lesser, want)
		}
	}
	if some < 1000 {
		t.Errorf("just %d rectangles showed something", some)
	}
}

// TestMoved holds points that are moved by whole pixels, up to the bounds, against those that are not.
func TestMoved(t *testing.T) {
	c := chance(14)
	for range 4000 {
		j := c.job([]int{300, 3000}[c.from(0, 1)])
		x, y := c.from(-outmost+12, outmost-12), c.from(-outmost+12, outmost-12)
		if c.from(0, 1) == 0 {
			x, y = c.from(-2, 2), c.from(-2, 2)
		}
		away := j
		away.v.X, away.v.Y = j.v.X+256*x, j.v.Y+256*y
		want := j.in(everywhere)
		for i := range want {
			want[i].X, want[i].Y = want[i].X+x, want[i].Y+y
		}
		if got := away.in(everywhere); !slices.Equal(got, want) || len(want) == 0 {
			t.Fatalf("P19.2: Point of %+v, moved by %d %d: %s", j, x, y, unlike(got, want))
		}
		box := Box(j.v, j.size)
		if got := Box(away.v, away.size); got != (api.Rect{X0: box.X0 + x, Y0: box.Y0 + y, X1: box.X1 + x, Y1: box.Y1 + y}) {
			t.Fatalf("P19.2: Box of %+v: %v; moved by %d %d: %v", j, box, x, y, got)
		}
	}
}

// TestRoundIsNearTheSquare holds that each of a round point's pixels is within two of the square one's, and that it fills it, but for
// its corners.
func TestRoundIsNearTheSquare(t *testing.T) {
	c := chance(15)
	for range 3000 {
		j := c.job([]int{300, 3000, place}[c.from(0, 2)])
		j.kind = 1
		box := Box(j.v, j.size)
		l := j.in(everywhere)
		if got := inside(l, api.Rect{X0: box.X0 - 2, Y0: box.Y0 - 2, X1: box.X1 + 2, Y1: box.Y1 + 2}); len(got) != len(l) || len(l) == 0 {
			t.Fatalf("P19.2: Point of %+v: of %d pixels %d are near %v", j, len(l), len(got), box)
		}
		sum, square := 0, j.size*j.size*64
		for _, f := range l {
			if f.Cov < 1 || f.Cov > 64 {
				t.Fatalf("P19.1: Point of %+v: %v", j, f)
			}
			sum += f.Cov
		}
		// About 785 of 1000 parts of a square are in its circle.
		if sum < square*70/100 || sum > square*86/100 {
			t.Fatalf("P19.2: Point of %+v: %d samples, of the square's %d", j, sum, square)
		}
	}
}

// TestSpriteRises holds that a sprite's colors rise to the right and upward, and by nothing else.
func TestSpriteRises(t *testing.T) {
	c := chance(16)
	for i := range 3000 {
		j := c.job([]int{300, 3000, place}[c.from(0, 2)])
		j.kind, j.size = 2, 1+i%broadest
		l := j.in(everywhere)
		if len(l) != j.size*j.size {
			t.Fatalf("P19.1: Point of %+v: %d fragments", j, len(l))
		}
		for k, f := range l {
			if f.C[2] != j.v.C[2] || f.C[3] != j.v.C[3] || f.C[0] < 0 || f.C[1] < 0 || f.C[0] > 255 || f.C[1] > 255 {
				t.Fatalf("P19.1: Point of %+v: %v", j, f)
			}
			if k%j.size > 0 && (f.C[0] <= l[k-1].C[0] || f.C[1] != l[k-1].C[1]) {
				t.Fatalf("P19.2: Point of %+v: %v right of %v", j, f, l[k-1])
			}
			if k >= j.size && (f.C[1] <= l[k-j.size].C[1] || f.C[0] != l[k-j.size].C[0]) {
				t.Fatalf("P19.2: Point of %+v: %v above %v", j, f, l[k-j.size])
			}
		}
	}
}

// TestNewMemory spoils an answer, and asks again.
func TestNewMemory(t *testing.T) {
	for kind := range 3 {
		j := job{win(100, 100, 5, 1, 2, 3, 4), 9, kind}
		first := j.in(everywhere)
		want := slices.Clone(first)
		for i := range first[:cap(first)] {
			first[:cap(first)][i] = api.Frag{X: -1, Y: -1, Z: -1, Cov: -1}
		}
		if again := j.in(everywhere); !slices.Equal(again, want) || len(want) == 0 {
			t.Errorf("P19.1: Point of %+v, once more: %s", j, unlike(again, want))
		}
	}
}

// TestAnyNumbers asks for points of numbers of all kinds: the calls must end, and not panic.
func TestAnyNumbers(t *testing.T) {
	c := chance(99)
	any := []int{math.MinInt, math.MinInt + 1, -1 << 32, -place, -1, 0, 1, 2, 64, 255, place, 1 << 32, 1 << 62, math.MaxInt - 1, math.MaxInt}
	for range 100000 {
		j := c.job(place)
		for _, b := range numbers() {
			if c.from(0, 20) == 0 {
				*b.of(&j) = any[c.from(0, len(any)-1)]
			}
		}
		x, y := any[c.from(0, len(any)-1)], any[c.from(0, len(any)-1)]
		j.in(api.Rect{X0: x, Y0: y, X1: x + c.from(0, 70), Y1: y + c.from(0, 70)})
		if got := Box(j.v, j.size); (got != api.Rect{}) != Right(j.v, j.size, 0) {
			t.Fatalf("P19.1: Box(%v, %d): %v", j.v, j.size, got)
		}
	}
}
