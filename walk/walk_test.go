package walk

import (
	"math"
	"slices"
	"sort"
	"testing"

	"rastrum/api"
)

const (
	farthest = 1 << 29 // of a point, either way
	most     = 1 << 22 // MaxPixel, written out
)

// everywhere is the greatest rectangle.
var everywhere = api.Rect{X0: -most, Y0: -most, X1: most, Y1: most}

// pt is the point at x, y.
func pt(x, y int) api.Point {
	return api.Point{X: x, Y: y}
}

// turned is p with X and Y in each other's place.
func turned(p api.Point) api.Point {
	return pt(p.Y, p.X)
}

// moved is p, so many pixels further.
func moved(p api.Point, x, y int) api.Point {
	return pt(p.X+256*x, p.Y+256*y)
}

// abs is n without its sign.
func abs(n int) int {
	if n < 0 {
		return -n
	}
	return n
}

// floorDiv is n divided by d, which is 1 or more, rounded down.
func floorDiv(n, d int) int {
	rest := (n%d + d) % d
	return (n - rest) / d
}

// byX tells whether X is the longer way.
func byX(a, b api.Point) bool {
	return abs(b.X-a.X) >= abs(b.Y-a.Y)
}

// chance is a row of numbers that look like chance and are the same at each run.
type chance uint64

// from is the next number from least to greatest.
func (c *chance) from(least, greatest int) int {
	*c ^= *c << 13
	*c ^= *c >> 7
	*c ^= *c << 17
	return least + int(*c>>1)%(greatest-least+1)
}

// point is one that is no further from nought than far.
func (c *chance) point(far int) api.Point {
	return pt(c.from(-far, far), c.from(-far, far))
}

// rect is one whose numbers are no further from nought than far.
func (c *chance) rect(far int) api.Rect {
	x, y := c.from(-far, far-1), c.from(-far, far-1)
	return api.Rect{X0: x, Y0: y, X1: c.from(x+1, far), Y1: c.from(y+1, far)}
}

// tiny is n, and e times less than any number, and d times less than any part of that.
type tiny struct{ n, e, d int }

// sign is -1, 0 or 1.
func (t tiny) sign() int {
	for _, n := range [3]int{t.n, t.e, t.d} {
		switch {
		case n < 0:
			return -1
		case n > 0:
			return 1
		}
	}
	return 0
}

// times is t, multiplied by k.
func (t tiny) times(k int) tiny {
	return tiny{t.n * k, t.e * k, t.d * k}
}

// less is t less u.
func (t tiny) less(u tiny) tiny {
	return tiny{t.n - u.n, t.e - u.e, t.d - u.d}
}

// isNear tells whether x and y, their signs left out, are together less than this.
func isNear(x, y tiny, than int) bool {
	x, y = x.times(x.sign()), y.times(y.sign())
	return tiny{n: than}.less(x).less(y).sign() > 0
}

// slowMeets tells whether the line from a to b meets the diamond of the pixel x, y, without layer 13: a line is the nearest to a
// middle at one of its ends, above or below the middle, or left or right of it.
func slowMeets(a, b api.Point, x, y int) bool {
	ax, ay := tiny{a.X - 256*x - 128, -1, 0}, tiny{a.Y - 256*y - 128, 0, -1}
	bx, by := tiny{b.X - 256*x - 128, -1, 0}, tiny{b.Y - 256*y - 128, 0, -1}
	if isNear(ax, ay, 128) || isNear(bx, by, 128) {
		return true
	}
	dx, dy := b.X-a.X, b.Y-a.Y
	if ax.sign() != bx.sign() && isNear(tiny{}, ay.times(dx).less(ax.times(dy)), 128*abs(dx)) {
		return true
	}
	return ay.sign() != by.sign() && isNear(ax.times(dy).less(ay.times(dx)), tiny{}, 128*abs(dy))
}

// slowExits tells whether the line exits from that diamond.
func slowExits(a, b api.Point, x, y int) bool {
	return slowMeets(a, b, x, y) && !slowMeets(b, b, x, y)
}

// slowLine is all pixels of a line, of all around it, ordered along its longer way.
func slowLine(a, b api.Point) []api.Step {
	var l []api.Step
	for x := floorDiv(min(a.X, b.X), 256) - 1; x <= floorDiv(max(a.X, b.X), 256)+1; x++ {
		for y := floorDiv(min(a.Y, b.Y), 256) - 1; y <= floorDiv(max(a.Y, b.Y), 256)+1; y++ {
			if slowExits(a, b, x, y) {
				l = append(l, api.Step{X: x, Y: y})
			}
		}
	}
	return numbered(a, b, l)
}

// numbered is l, ordered and numbered from a to b along the longer way.
func numbered(a, b api.Point, l []api.Step) []api.Step {
	before := func(i, j int) bool {
		if byX(a, b) {
			return (l[i].X < l[j].X) == (a.X < b.X)
		}
		return (l[i].Y < l[j].Y) == (a.Y < b.Y)
	}
	sort.Slice(l, before)
	for k := range l {
		l[k].K = k
	}
	return l
}

// inside is those steps that are in r.
func inside(l []api.Step, r api.Rect) []api.Step {
	var some []api.Step
	for _, s := range l {
		if r.X0 <= s.X && s.X < r.X1 && r.Y0 <= s.Y && s.Y < r.Y1 {
			some = append(some, s)
		}
	}
	return some
}

// steps is pixels, written out as X, Y, X, Y, numbered from 0 on.
func steps(xy ...int) []api.Step {
	var l []api.Step
	for i := 0; i < len(xy); i += 2 {
		l = append(l, api.Step{K: i / 2, X: xy[i], Y: xy[i+1]})
	}
	return l
}

// all is what At tells of a line, one by one.
func all(t *testing.T, a, b api.Point) []api.Step {
	t.Helper()
	var l []api.Step
	for k := range Count(a, b) {
		s, ok := At(a, b, k)
		if !ok {
			t.Fatalf("P14.1: At(%v, %v, %d): nothing, of %d pixels", a, b, k, Count(a, b))
		}
		l = append(l, s)
	}
	return l
}

// checkNone tells of a number k at which a line has no pixel.
func checkNone(t *testing.T, a, b api.Point, k int) {
	t.Helper()
	if s, ok := At(a, b, k); ok || s != (api.Step{}) {
		t.Errorf("P14.1: At(%v, %v, %d): %v, %v", a, b, k, s, ok)
	}
}

// checkLine holds all three functions against the line's pixels.
func checkLine(t *testing.T, a, b api.Point, want []api.Step) {
	t.Helper()
	if got := Count(a, b); got != len(want) {
		t.Errorf("P14.1: Count(%v, %v): %d, not %d", a, b, got, len(want))
		return
	}
	for k, w := range want {
		if got, ok := At(a, b, k); !ok || got != w {
			t.Errorf("P14.1: At(%v, %v, %d): %v, %v; not %v", a, b, k, got, ok, w)
			return
		}
	}
	for _, k := range [6]int{-1, -2, len(want), len(want) + 1, math.MinInt, math.MaxInt} {
		checkNone(t, a, b, k)
	}
	checkWithin(t, a, b, everywhere, want)
}

// checkWithin holds what Within tells against these.
func checkWithin(t *testing.T, a, b api.Point, r api.Rect, want []api.Step) {
	t.Helper()
	if got := Within(a, b, r); !slices.Equal(got, want) {
		t.Errorf("P14.1: Within(%v, %v, %v): %v, not %v", a, b, r, got, want)
	}
}

func TestExample(t *testing.T) {
	checkLine(t, pt(128, 128), pt(640, 384), steps(0, 0, 1, 1))
}

func TestAsWritten(t *testing.T) {
	cases := []struct {
		a, b api.Point
		want []api.Step
	}{
		// Level: through the middles, and from each of them back.
		{pt(128, 128), pt(896, 128), steps(0, 0, 1, 0, 2, 0)}, {pt(896, 128), pt(128, 128), steps(3, 0, 2, 0, 1, 0)},
		{pt(0, 100), pt(1024, 100), steps(0, 0, 1, 0, 2, 0, 3, 0)}, {pt(1024, 100), pt(0, 100), steps(3, 0, 2, 0, 1, 0, 0, 0)},
		// Upright.
		{pt(128, 128), pt(128, 896), steps(0, 0, 0, 1, 0, 2)}, {pt(128, 896), pt(128, 128), steps(0, 3, 0, 2, 0, 1)},
		{pt(-100, 0), pt(-100, 768), steps(-1, 0, -1, 1, -1, 2)}, {pt(-100, 768), pt(-100, 0), steps(-1, 2, -1, 1, -1, 0)},
		// At the boundary of two rows, or of two columns.
		{pt(0, 256), pt(768, 256), steps(0, 0, 1, 0, 2, 0)}, {pt(768, 0), pt(0, 0), steps(2, -1, 1, -1, 0, -1)},
		{pt(256, 0), pt(256, 768), steps(0, 0, 0, 1, 0, 2)}, {pt(0, 768), pt(0, 0), steps(-1, 2, -1, 1, -1, 0)},
		// As wide as high, through the middles, and to each side.
		{pt(128, 128), pt(640, 640), steps(0, 0, 1, 1)}, {pt(640, 640), pt(128, 128), steps(2, 2, 1, 1)},
		{pt(128, -128), pt(640, -640), steps(0, -1, 1, -2)}, {pt(-128, 128), pt(-640, 640), steps(-1, 0, -2, 1)},
		// Flat and steep, to each side.
		{pt(128, 128), pt(1408, 640), steps(0, 0, 1, 0, 2, 1, 3, 1, 4, 2)}, {pt(1408, 640), pt(128, 128), steps(5, 2, 4, 2, 3, 1, 2, 1, 1, 0)},
		{pt(128, 640), pt(1408, 128), steps(0, 2, 1, 2, 2, 1, 3, 1, 4, 0)}, {pt(1408, 128), pt(128, 640), steps(5, 0, 4, 0, 3, 1, 2, 1, 1, 2)},
		{pt(128, 128), pt(640, 1408), steps(0, 0, 0, 1, 1, 2, 1, 3, 2, 4)}, {pt(640, 1408), pt(128, 128), steps(2, 5, 2, 4, 1, 3, 1, 2, 0, 1)},
		{pt(640, 128), pt(128, 1408), steps(2, 0, 2, 1, 1, 2, 1, 3, 0, 4)}, {pt(128, 1408), pt(640, 128), steps(0, 5, 0, 4, 1, 3, 1, 2, 2, 1)},
		// Through a corner between two rows, at a middle: a line by X that rises comes to be above, each other one beside it, below.
		{pt(0, 192), pt(256, 320), steps(0, 1)}, {pt(256, 320), pt(0, 192), steps(0, 1)},
		{pt(0, 320), pt(256, 192), steps(0, 0)}, {pt(256, 192), pt(0, 320), steps(0, 0)},
		{pt(0, 256), pt(256, 256), steps(0, 0)}, {pt(256, 256), pt(0, 256), steps(0, 0)},
		// Between two columns: always left of it.
		{pt(192, 0), pt(320, 256), steps(0, 0)}, {pt(320, 256), pt(192, 0), steps(0, 0)},
		{pt(320, 0), pt(192, 256), steps(0, 0)}, {pt(192, 256), pt(320, 0), steps(0, 0)},
		{pt(256, 0), pt(256, 256), steps(0, 0)}, {pt(256, 256), pt(256, 0), steps(0, 0)},
		// Along the edges of diamonds: as wide as high, one unit less, one more.
		{pt(0, 128), pt(256, 384), steps(-1, 0)}, {pt(256, 384), pt(0, 128), steps(0, 1)},
		{pt(0, 384), pt(256, 128), steps(-1, 1)}, {pt(256, 128), pt(0, 384), steps(0, 0)},
		{pt(128, 0), pt(384, 256), steps(0, 0)}, {pt(384, 256), pt(128, 0), steps(0, 0)},
		{pt(0, 128), pt(256, 383), steps(-1, 0, 0, 0)}, {pt(0, 128), pt(255, 384), steps(-1, 0)},
		{pt(0, 128), pt(256, 385), steps(-1, 0, 0, 1)}, {pt(0, 128), pt(257, 384), steps(-1, 0, 0, 0)},
		// From a point to itself, in a diamond, at its corners, and in none.
		{pt(128, 128), pt(128, 128), nil}, {pt(256, 128), pt(256, 128), nil}, {pt(0, 0), pt(0, 0), nil}, {pt(128, 256), pt(128, 256), nil},
		{pt(200, 200), pt(200, 200), nil}, {pt(farthest, farthest), pt(farthest, farthest), nil},
		// In one diamond, and in none.
		{pt(100, 100), pt(150, 150), nil}, {pt(150, 150), pt(100, 100), nil}, {pt(128, 1), pt(128, 255), nil}, {pt(1, 128), pt(256, 128), nil},
		{pt(-20, -20), pt(20, 20), nil}, {pt(20, -20), pt(-20, 20), nil}, {pt(200, 250), pt(310, 260), nil}, {pt(250, 10), pt(260, 90), nil},
		// From one diamond to none, and back.
		{pt(128, 128), pt(255, 255), steps(0, 0)}, {pt(255, 255), pt(128, 128), nil}, {pt(200, 128), pt(300, 240), steps(0, 0)},
		// The begin in front of a middle, at it, and behind it, in its diamond and in none.
		{pt(127, 128), pt(400, 20), steps(0, 0)}, {pt(128, 128), pt(400, 20), steps(0, 0)}, {pt(129, 128), pt(400, 20), steps(0, 0)},
		{pt(0, 20), pt(300, 20), steps(0, 0)}, {pt(128, 20), pt(300, 20), steps(0, 0)}, {pt(148, 20), pt(300, 20), steps(0, 0)},
		{pt(128, 2), pt(300, 2), steps(0, 0)}, {pt(129, 2), pt(300, 2), steps(0, 0)}, {pt(130, 2), pt(300, 2), steps(0, 0)},
		{pt(131, 2), pt(300, 2), nil}, {pt(131, 2), pt(600, 2), steps(1, 0)}, {pt(149, 20), pt(300, 20), nil},
		// From the other side: a begin just at the middle is behind it.
		{pt(300, 0), pt(20, 0), steps(0, -1)}, {pt(129, 0), pt(20, 0), steps(0, -1)}, {pt(128, 0), pt(20, 0), nil}, {pt(127, 0), pt(20, 0), nil},
		{pt(127, 1), pt(20, 1), nil}, {pt(128, 1), pt(20, 1), steps(0, 0)}, {pt(127, 2), pt(20, 2), steps(0, 0)},
		// The end in front of a middle, at it, and behind it, in its diamond and in none.
		{pt(128, 128), pt(364, 20), steps(0, 0)}, {pt(128, 128), pt(365, 20), steps(0, 0)}, {pt(128, 128), pt(384, 20), steps(0, 0)},
		{pt(128, 128), pt(385, 20), steps(0, 0)}, {pt(128, 128), pt(404, 20), steps(0, 0)}, {pt(128, 128), pt(405, 20), steps(0, 0, 1, 0)},
		{pt(128, 128), pt(384, 0), steps(0, 0)}, {pt(128, 128), pt(385, 0), steps(0, 0, 1, 0)}, {pt(128, 128), pt(383, 0), steps(0, 0)},
		{pt(384, 0), pt(129, 0), nil}, {pt(385, 0), pt(129, 0), steps(1, -1)}, {pt(385, 0), pt(128, 0), steps(1, -1, 0, -1)},
		// The same by Y.
		{pt(20, 0), pt(20, 300), steps(0, 0)}, {pt(20, 128), pt(20, 300), steps(0, 0)}, {pt(20, 148), pt(20, 300), nil},
		{pt(20, 147), pt(20, 300), steps(0, 0)}, {pt(0, 129), pt(0, 300), nil}, {pt(0, 128), pt(0, 300), steps(-1, 0)},
		{pt(0, 127), pt(0, 20), nil}, {pt(0, 128), pt(0, 20), steps(-1, 0)}, {pt(256, 129), pt(256, 600), steps(0, 1)},
	}
	for _, c := range cases {
		checkLine(t, c.a, c.b, c.want)
	}
}

// net is the points of two pixels each way that lie at these places of them.
func net(places ...int) []api.Point {
	var l []api.Point
	for _, x := range places {
		for _, y := range places {
			for i := range 4 {
				l = append(l, pt(x-i%2*256, y-i/2*256))
			}
		}
	}
	return l
}

// checkNet holds all lines between these points against slowLine, and counts those of so many pixels.
func checkNet(t *testing.T, points []api.Point) {
	t.Helper()
	var of [4]int
	for _, a := range points {
		for _, b := range points {
			want := slowLine(a, b)
			checkLine(t, a, b, want)
			of[min(len(want), 3)]++
		}
		if t.Failed() {
			return
		}
	}
	for n := range 3 {
		if of[n] < 100 {
			t.Errorf("%d lines of %d pixels: too few to tell anything", of[n], n)
		}
	}
}

func TestAllLinesOfANet(t *testing.T) {
	checkNet(t, net(0, 64, 128, 192, 256))
	checkNet(t, net(1, 63, 127, 129, 200))
	checkNet(t, net(0, 1, 127, 128, 129, 255))
	checkNet(t, net(63, 64, 65, 191, 192, 193))
}

func TestLinesOfManyPixels(t *testing.T) {
	c := chance(14)
	for range 400 {
		a := c.point(1500)
		b := a
		switch c.from(0, 5) {
		case 0:
			b = pt(a.X+c.from(-3000, 3000), a.Y)
		case 1:
			b = pt(a.X, a.Y+c.from(-3000, 3000))
		case 2:
			far := c.from(-3000, 3000)
			b = pt(a.X+far, a.Y+far*(2*c.from(0, 1)-1)+c.from(-1, 1))
		default:
			b = c.point(1500)
		}
		checkLine(t, a, b, slowLine(a, b))
		x, y := c.from(-1<<20, 1<<20), c.from(-1<<20, 1<<20)
		checkLine(t, moved(a, x, y), moved(b, x, y), slowLine(moved(a, x, y), moved(b, x, y)))
	}
}

// checkBoundary holds lines that cross the middle of the pixel at nought at the boundary to the next one, by both ways, against what
// the move says: by X a line that rises is above, all others are below, and by Y all are left of it.
func checkBoundary(t *testing.T, run, rise, above int) {
	t.Helper()
	a, b := pt(128-run, 256-rise), pt(128+run, 256+rise)
	for _, l := range [2][]api.Step{Within(a, b, api.Rect{X1: 1, Y0: -9, Y1: 9}), Within(b, a, api.Rect{X1: 1, Y0: -9, Y1: 9})} {
		if len(l) != 1 || l[0].X != 0 || l[0].Y != above {
			t.Errorf("P14.1: the line from %v to %v, there or back: %v, not the row %d", a, b, l, above)
		}
	}
	// Of a line that is as wide as high X stays the longer way.
	if run == abs(rise) {
		return
	}
	a, b = turned(a), turned(b)
	for _, l := range [2][]api.Step{Within(a, b, api.Rect{Y1: 1, X0: -9, X1: 9}), Within(b, a, api.Rect{Y1: 1, X0: -9, X1: 9})} {
		if len(l) != 1 || l[0].X != 0 || l[0].Y != 0 {
			t.Errorf("P14.1: the line from %v to %v, there or back: %v, not the column 0", a, b, l)
		}
	}
}

func TestAtTheBoundaryOfTwoPixels(t *testing.T) {
	for _, run := range [6]int{129, 130, 200, 1000, 1<<28 + 1, farthest - 500} {
		for _, rise := range [5]int{1, 2, run / 2, run - 1, run} {
			checkBoundary(t, run, rise, 1)
			checkBoundary(t, run, -rise, 0)
		}
		checkBoundary(t, run, 0, 0)
	}
	// One unit above the boundary, and one below it, or as little as may be where the line ends.
	checkLine(t, pt(0, 257), pt(256, 257), steps(0, 1))
	checkLine(t, pt(0, 257), pt(256, 256), steps(0, 1))
	checkLine(t, pt(0, 255), pt(256, 256), steps(0, 0))
	checkLine(t, pt(257, 0), pt(257, 256), steps(1, 0))
	checkLine(t, pt(257, 0), pt(256, 256), steps(1, 0))
	checkLine(t, pt(255, 0), pt(256, 256), steps(0, 0))
	// Where they are as wide as high, one more and one less: at the middle of column 0, or of row 0, and at both.
	checkLine(t, pt(0, 128), pt(300, 428), steps(-1, 0, 0, 1))
	checkLine(t, pt(0, 128), pt(300, 427), steps(-1, 0, 0, 0))
	checkLine(t, pt(0, 128), pt(299, 428), steps(-1, 0, 0, 1))
	checkLine(t, pt(0, 0), pt(256, 256), steps(0, 0))
	checkLine(t, pt(0, 0), pt(255, 256), steps(0, 0))
	checkLine(t, pt(0, 0), pt(256, 255), steps(0, 0))
	checkLine(t, pt(0, 256), pt(256, 0), steps(0, 0))
	checkLine(t, pt(-128, 0), pt(384, 512), steps(-1, 0, 0, 1))
	checkLine(t, pt(0, -128), pt(512, 384), steps(-1, -1, 0, 0))
}

// rects is all rectangles of numbers from least to greatest.
func rects(least, greatest int) []api.Rect {
	var l []api.Rect
	for x0 := least; x0 < greatest; x0++ {
		for y0 := least; y0 < greatest; y0++ {
			for x1 := x0 + 1; x1 <= greatest; x1++ {
				for y1 := y0 + 1; y1 <= greatest; y1++ {
					l = append(l, api.Rect{X0: x0, Y0: y0, X1: x1, Y1: y1})
				}
			}
		}
	}
	return l
}

func TestWithinAsWritten(t *testing.T) {
	a, b := pt(128, 128), pt(1408, 640) // 0 0, 1 0, 2 1, 3 1, 4 2
	for _, c := range []struct {
		r           api.Rect
		first, last int
	}{
		// The whole, and just the whole.
		{api.Rect{X0: -9, Y0: -9, X1: 9, Y1: 9}, 0, 5}, {api.Rect{X0: 0, Y0: 0, X1: 5, Y1: 3}, 0, 5},
		// The begin, the end, a piece in the middle; by X, by Y and by both.
		{api.Rect{X0: -5, Y0: -5, X1: 1, Y1: 5}, 0, 1}, {api.Rect{X0: 0, Y0: 0, X1: 2, Y1: 1}, 0, 2}, {api.Rect{X0: -5, Y0: -5, X1: 9, Y1: 1}, 0, 2},
		{api.Rect{X0: 4, Y0: 0, X1: 9, Y1: 9}, 4, 5}, {api.Rect{X0: 0, Y0: 2, X1: 9, Y1: 9}, 4, 5}, {api.Rect{X0: 3, Y0: 2, X1: 9, Y1: 9}, 4, 5},
		{api.Rect{X0: 1, Y0: 0, X1: 4, Y1: 9}, 1, 4}, {api.Rect{X0: -9, Y0: 1, X1: 9, Y1: 2}, 2, 4}, {api.Rect{X0: 1, Y0: 1, X1: 4, Y1: 2}, 2, 4},
		// One pixel, one row, one column.
		{api.Rect{X0: 0, Y0: 0, X1: 1, Y1: 1}, 0, 1}, {api.Rect{X0: 2, Y0: 1, X1: 3, Y1: 2}, 2, 3}, {api.Rect{X0: 4, Y0: 2, X1: 5, Y1: 3}, 4, 5},
		{api.Rect{X0: -most, Y0: 1, X1: most, Y1: 2}, 2, 4}, {api.Rect{X0: 3, Y0: -most, X1: 4, Y1: most}, 3, 4},
		// Nothing: in front of it, behind it, above, below, and in its corners.
		{api.Rect{X0: -1, Y0: 0, X1: 0, Y1: 3}, 0, 0}, {api.Rect{X0: 5, Y0: 0, X1: 6, Y1: 3}, 0, 0}, {api.Rect{X0: 0, Y0: 3, X1: 6, Y1: 4}, 0, 0},
		{api.Rect{X0: 0, Y0: -1, X1: 6, Y1: 0}, 0, 0}, {api.Rect{X0: 0, Y0: 1, X1: 2, Y1: 3}, 0, 0}, {api.Rect{X0: 2, Y0: 0, X1: 5, Y1: 1}, 0, 0},
		{api.Rect{X0: 2, Y0: 0, X1: 3, Y1: 1}, 0, 0}, {api.Rect{X0: -most, Y0: -most, X1: 0, Y1: 0}, 0, 0}, {api.Rect{X0: 5, Y0: 3, X1: most, Y1: most}, 0, 0},
	} {
		for _, to := range [4][2]int{{0, 0}, {-7, 3}, {9, -400}, {1<<21 - 9, 9 - 1<<21}} {
			// Numbers of a rectangle don't go beyond the bound.
			r := api.Rect{X0: max(c.r.X0+to[0], -most), Y0: max(c.r.Y0+to[1], -most), X1: min(c.r.X1+to[0], most), Y1: min(c.r.Y1+to[1], most)}
			from, end := moved(a, to[0], to[1]), moved(b, to[0], to[1])
			checkWithin(t, from, end, r, slowLine(from, end)[c.first:c.last])
			from, end, r = turned(from), turned(end), api.Rect{X0: r.Y0, Y0: r.X0, X1: r.Y1, Y1: r.X1}
			checkWithin(t, from, end, r, slowLine(from, end)[c.first:c.last])
		}
	}
}

func TestWithinAllRectangles(t *testing.T) {
	c := chance(41)
	all := rects(-2, 3)
	for range 120 {
		a, b := c.point(700), c.point(700)
		if c.from(0, 3) == 0 {
			a, b = pt(64*c.from(-10, 10), 64*c.from(-10, 10)), pt(64*c.from(-10, 10), 64*c.from(-10, 10))
		}
		want := slowLine(a, b)
		for _, r := range all {
			checkWithin(t, a, b, r, inside(want, r))
		}
	}
}

func TestWithinLargerRectangles(t *testing.T) {
	c := chance(42)
	some := 0
	for range 200 {
		a, b := c.point(9000), c.point(9000)
		line := all(t, a, b)
		for range 40 {
			r := c.rect(40)
			want := inside(line, r)
			checkWithin(t, a, b, r, want)
			some += min(len(want), 1)
		}
	}
	if some < 1000 {
		t.Errorf("%d rectangles that the line meets: too few to tell anything", some)
	}
}

// wrongRects is rectangles that may not be, that the lines of TestWrongRectangles would be in, were it not for that.
func wrongRects() []api.Rect {
	right := api.Rect{X0: -9, Y0: -9, X1: 9, Y1: 9}
	var l []api.Rect
	for i := range 4 {
		// X0 and Y0 at and above the other number, or too low; X1 and Y1 at and below it, or too high.
		for _, n := range [4]int{9, 10, most, math.MaxInt} {
			r := right
			ways := [4]*int{&r.X0, &r.Y0, &r.X1, &r.Y1}
			*ways[i] = n
			if i > 1 {
				*ways[i] = -n
			}
			l = append(l, r)
		}
		for _, n := range [3]int{most + 1, math.MaxInt, math.MaxInt / 256} {
			r := right
			ways := [4]*int{&r.X0, &r.Y0, &r.X1, &r.Y1}
			*ways[i] = n
			if i < 2 {
				*ways[i] = -n
			}
			l = append(l, r)
		}
	}
	return append(l, api.Rect{}, api.Rect{X0: 9, Y0: 9, X1: -9, Y1: -9}, api.Rect{X0: 1, Y0: -9, X1: 1, Y1: 9},
		api.Rect{X0: math.MinInt, Y0: math.MinInt, X1: math.MaxInt, Y1: math.MaxInt})
}

func TestWrongRectangles(t *testing.T) {
	lines := [][2]api.Point{{pt(128, 128), pt(640, 384)}, {pt(640, 384), pt(128, 128)}, {pt(-500, 900), pt(700, -900)},
		{pt(-farthest, -farthest), pt(farthest, farthest)}, {pt(0, 0), pt(0, 0)}, {pt(-2000, 0), pt(2000, 0)}, {pt(0, 2000), pt(0, -2000)}}
	for _, l := range lines {
		for _, r := range wrongRects() {
			if got := Within(l[0], l[1], r); len(got) > 0 {
				t.Errorf("P14.1: Within(%v, %v, %v): %d pixels of a rectangle that may not be", l[0], l[1], r, len(got))
			}
		}
	}
}

// checkFar holds some pixels of a line that may be as long as lines may be against slowExits: each is one of the line's, the next to it
// aren't, and the numbers go on from one to the next.
func checkFar(t *testing.T, a, b api.Point, c *chance) {
	t.Helper()
	count := Count(a, b)
	ks := []int{0, 1, 2, count - 3, count - 2, count - 1, count / 2}
	for range 5 {
		ks = append(ks, c.from(0, max(count-1, 0)))
	}
	for _, k := range ks {
		if k < 0 || k >= count {
			continue
		}
		s, ok := At(a, b, k)
		if !ok || s.K != k || !slowExits(a, b, s.X, s.Y) {
			t.Errorf("P14.1: At(%v, %v, %d): %v, %v", a, b, k, s, ok)
		}
		checkWithin(t, a, b, api.Rect{X0: s.X, Y0: s.Y, X1: s.X + 1, Y1: s.Y + 1}, []api.Step{s})
		near := api.Rect{X0: s.X - 2, Y0: s.Y - 2, X1: s.X + 3, Y1: s.Y + 3}
		checkWithin(t, a, b, near, slowNear(a, b, near, s))
	}
	checkNone(t, a, b, count)
	checkNone(t, a, b, -1)
}

// slowNear is the line's pixels in r, asked one by one; that of s tells their numbers.
func slowNear(a, b api.Point, r api.Rect, s api.Step) []api.Step {
	var l []api.Step
	for x := r.X0; x < r.X1; x++ {
		for y := r.Y0; y < r.Y1; y++ {
			if slowExits(a, b, x, y) {
				l = append(l, api.Step{X: x, Y: y})
			}
		}
	}
	l = numbered(a, b, l)
	at := slices.IndexFunc(l, func(near api.Step) bool { return near.X == s.X && near.Y == s.Y })
	for i := range l {
		l[i].K += s.K - at
	}
	return l
}

func TestFarLines(t *testing.T) {
	c := chance(29)
	ends := [3]int{-farthest, 0, farthest}
	for i := range 81 {
		checkFar(t, pt(ends[i%3], ends[i/3%3]), pt(ends[i/9%3], ends[i/27%3]), &c)
	}
	for range 3000 {
		a, b := c.point(farthest), c.point(farthest)
		switch c.from(0, 5) {
		case 0:
			a.X = farthest * (2*c.from(0, 1) - 1)
		case 1:
			b.Y = farthest * (2*c.from(0, 1) - 1)
		case 2:
			b = pt(a.X+c.from(-400, 400), a.Y+c.from(-400, 400))
			b.X, b.Y = min(max(b.X, -farthest), farthest), min(max(b.Y, -farthest), farthest)
		case 3:
			a = pt(c.from(-200, 200), c.from(-200, 200))
		}
		checkFar(t, a, b, &c)
		if t.Failed() {
			return
		}
	}
}

func TestFarLinesAsWritten(t *testing.T) {
	for _, c := range []struct {
		a, b             api.Point
		count            int
		firstX, firstY   int
		lastX, lastY     int
		middle           int
		middleX, middleY int
	}{
		// The bound is a corner of pixels, just right of a pixel's right side.
		{pt(-farthest, 0), pt(farthest, 0), 1 << 22, -1 << 21, -1, 1<<21 - 1, -1, 1 << 21, 0, -1},
		{pt(farthest, 0), pt(-farthest, 0), 1 << 22, 1<<21 - 1, -1, -1 << 21, -1, 1 << 21, -1, -1},
		{pt(0, -farthest), pt(0, farthest), 1 << 22, -1, -1 << 21, -1, 1<<21 - 1, 1 << 21, -1, 0},
		{pt(0, farthest), pt(0, -farthest), 1 << 22, -1, 1<<21 - 1, -1, -1 << 21, 1 << 21, -1, -1},
		{pt(-farthest, -farthest), pt(farthest, farthest), 1 << 22, -1 << 21, -1 << 21, 1<<21 - 1, 1<<21 - 1, 1 << 21, 0, 0},
		{pt(farthest, -farthest), pt(-farthest, farthest), 1 << 22, 1<<21 - 1, -1 << 21, -1 << 21, 1<<21 - 1, 1 << 21, -1, 0},
		{pt(-farthest, farthest), pt(farthest, -farthest), 1 << 22, -1 << 21, 1<<21 - 1, 1<<21 - 1, -1 << 21, 1 << 21, 0, -1},
		{pt(farthest, farthest), pt(-farthest, -farthest), 1 << 22, 1<<21 - 1, 1<<21 - 1, -1 << 21, -1 << 21, 1 << 21, -1, -1},
	} {
		if got := Count(c.a, c.b); got != c.count {
			t.Errorf("P14.1: Count(%v, %v): %d, not %d", c.a, c.b, got, c.count)
		}
		for _, want := range [3]api.Step{{K: 0, X: c.firstX, Y: c.firstY}, {K: c.count - 1, X: c.lastX, Y: c.lastY},
			{K: c.middle, X: c.middleX, Y: c.middleY}} {
			if got, ok := At(c.a, c.b, want.K); !ok || got != want {
				t.Errorf("P14.1: At(%v, %v, %d): %v, %v; not %v", c.a, c.b, want.K, got, ok, want)
			}
		}
		for _, k := range [6]int{-1, c.count, math.MinInt, math.MaxInt, math.MaxInt - 1, 1 << 40} {
			checkNone(t, c.a, c.b, k)
		}
	}
}

func TestTheLongestLineAsAWhole(t *testing.T) {
	a, b := pt(-farthest, farthest-256), pt(farthest, -farthest)
	for range 2 {
		got := Within(a, b, everywhere)
		if len(got) != 1<<22 {
			t.Errorf("P14.1: Within(%v, %v, %v): %d pixels", a, b, everywhere, len(got))
		}
		for i, s := range got {
			if at, ok := At(a, b, i); !ok || at != s {
				t.Fatalf("P14.1: Within(%v, %v, %v): %v, and At(%d): %v, %v", a, b, everywhere, s, i, at, ok)
			}
		}
		a, b = turned(a), turned(b)
	}
}

// A line that were gone through from its begin on for each of these rectangles would take hours.
func TestWithinBeginsAtTheRectangle(t *testing.T) {
	c := chance(7)
	for range 50000 {
		a, b := pt(-farthest, c.from(-farthest, farthest)), pt(farthest, c.from(-farthest, farthest))
		if c.from(0, 1) == 0 {
			a, b = turned(b), turned(a)
		}
		s, _ := At(a, b, c.from(1000, Count(a, b)-1000))
		r := api.Rect{X0: s.X - c.from(0, 3), Y0: s.Y - c.from(0, 3), X1: s.X + c.from(1, 3), Y1: s.Y + c.from(1, 3)}
		if got := Within(a, b, r); !slices.Contains(got, s) || len(got) > 6 {
			t.Fatalf("P14.1: Within(%v, %v, %v): %v, and not %v", a, b, r, got, s)
		}
		low := api.Rect{X0: -most, Y0: s.Y, X1: most, Y1: s.Y + 1}
		if byX(a, b) && abs(b.Y-a.Y) < 1<<20 {
			low = api.Rect{X0: s.X, Y0: -most, X1: s.X + 1, Y1: most}
		}
		if got := Within(a, b, low); !slices.Contains(got, s) {
			t.Fatalf("P14.1: Within(%v, %v, %v): %d pixels, and not %v", a, b, low, len(got), s)
		}
	}
}

// behind is the pixels of l, with numbers that are so much greater.
func behind(l []api.Step, count int) []api.Step {
	var later []api.Step
	for _, s := range l {
		s.K += count
		later = append(later, s)
	}
	return later
}

// checkParts holds a line against its parts, in front of and behind the point p of it.
func checkParts(t *testing.T, a, p, b api.Point) {
	t.Helper()
	first, second := Within(a, p, everywhere), Within(p, b, everywhere)
	both := append(slices.Clip(first), behind(second, len(first))...)
	if whole := Within(a, b, everywhere); !slices.Equal(both, whole) {
		t.Errorf("P14.2: the line from %v to %v has %v, and its parts at %v %v and %v", a, b, whole, p, first, second)
	}
	if got := Count(a, p) + Count(p, b); got != Count(a, b) {
		t.Errorf("P14.2: the line from %v to %v has %d pixels, and its parts at %v %d", a, b, Count(a, b), p, got)
	}
}

func TestPartsOfALine(t *testing.T) {
	c := chance(99)
	for range 3000 {
		a, way := c.point(800), c.point(1+c.from(0, 60))
		n := c.from(1, 40)
		b := pt(a.X+n*way.X, a.Y+n*way.Y)
		for _, k := range [4]int{0, c.from(0, n), c.from(0, n), n} {
			checkParts(t, a, pt(a.X+k*way.X, a.Y+k*way.Y), b)
		}
	}
	// At each point of lines through the corners, and along the edges of diamonds, and at the boundary of two pixels.
	for _, way := range [9][2]int{{1, 0}, {0, 1}, {1, 1}, {-1, 1}, {2, 1}, {1, 2}, {-3, 1}, {1, -3}, {-2, -5}} {
		for _, a := range [6]api.Point{pt(0, 0), pt(0, 128), pt(128, 0), pt(64, 64), pt(128, 256), pt(-129, 63)} {
			const n = 600
			for k := range n + 1 {
				checkParts(t, a, pt(a.X+k*way[0], a.Y+k*way[1]), pt(a.X+n*way[0], a.Y+n*way[1]))
			}
		}
	}
}

func TestPartsOfFarLines(t *testing.T) {
	c := chance(3)
	for range 3000 {
		const n = 1 << 10
		way := c.point(farthest / n)
		a := c.point(farthest)
		a = pt(min(max(a.X, -farthest-n*way.X), farthest-n*way.X), min(max(a.Y, -farthest-n*way.Y), farthest-n*way.Y))
		a = pt(min(max(a.X, -farthest), farthest), min(max(a.Y, -farthest), farthest))
		k := c.from(0, n)
		p, b := pt(a.X+k*way.X, a.Y+k*way.Y), pt(a.X+n*way.X, a.Y+n*way.Y)
		first := Count(a, p)
		if whole := Count(a, b); whole != first+Count(p, b) {
			t.Fatalf("P14.2: Count(%v, %v): %d, and of its parts at %v %d and %d", a, b, whole, p, first, Count(p, b))
		}
		for _, at := range [4]int{0, first - 1, first, Count(a, b) - 1} {
			got, ok := At(a, b, at)
			want, is := At(a, p, at)
			if at >= first {
				if want, is = At(p, b, at-first); is {
					want.K += first
				}
			}
			if got != want || ok != is {
				t.Fatalf("P14.2: At(%v, %v, %d): %v, %v; and of its parts at %v %v, %v", a, b, at, got, ok, p, want, is)
			}
		}
	}
}

func TestLinesMovedByPixels(t *testing.T) {
	c := chance(77)
	for range 4000 {
		a, b := c.point(1500), c.point(1500)
		if c.from(0, 2) == 0 {
			a, b = pt(64*c.from(-20, 20), 64*c.from(-20, 20)), pt(64*c.from(-20, 20), 64*c.from(-20, 20))
		}
		far := [3]int{3, 1000, 1<<21 - 6}[c.from(0, 2)]
		x, y := c.from(-far, far), c.from(-far, far)
		here, there := Within(a, b, everywhere), Within(moved(a, x, y), moved(b, x, y), everywhere)
		for i := range here {
			here[i].X += x
			here[i].Y += y
		}
		if !slices.Equal(here, there) {
			t.Fatalf("P14.2: the line from %v to %v, moved by %d and %d pixels, has %v, not %v", a, b, x, y, there, here)
		}
	}
}

func TestNoMoreThanARectangleIsWideOrHigh(t *testing.T) {
	c := chance(55)
	full := 0
	for range 20000 {
		a, b := c.point(20000), c.point(20000)
		r := c.rect(30)
		bound := r.Y1 - r.Y0
		if byX(a, b) {
			bound = r.X1 - r.X0
		}
		got := len(Within(a, b, r))
		if got > bound {
			t.Fatalf("P14.2: Within(%v, %v, %v): %d pixels", a, b, r, got)
		}
		if got == bound {
			full++
		}
	}
	if full < 500 {
		t.Errorf("%d rectangles that a line goes all through: too few to tell anything", full)
	}
}

func TestNothingIsKept(t *testing.T) {
	a, b, r := pt(128, 128), pt(1408, 640), api.Rect{X0: 0, Y0: 0, X1: 5, Y1: 3}
	first := Within(a, b, r)
	kept := slices.Clone(first)
	second := Within(a, b, r)
	second[0] = api.Step{K: 9, X: 9, Y: 9}
	if !slices.Equal(first, kept) || !slices.Equal(Within(a, b, r), kept) {
		t.Errorf("P14.1: Within(%v, %v, %v): an answer is changed by another one's change", a, b, r)
	}
}
