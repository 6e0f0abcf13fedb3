package wide

import (
	"fmt"
	"math"
	"slices"
	"sort"
	"testing"

	"rastrum/api"
	"rastrum/diamond"
	"rastrum/walk"
)

const (
	place    = 1 << 28 // the greatest X and Y of an end, written out
	deepest  = 1<<24 - 1
	border   = 1 << 22 // the greatest number of a rectangle
	broadest = 64
	longest  = 1 << 40 // the greatest Count of a dash
)

// everywhere is the greatest rectangle.
var everywhere = api.Rect{X0: -border, Y0: -border, X1: border, Y1: border}

// plain is a dash that may be, of lines that aren't dashed.
var plain = api.Dash{Pattern: 0x1234, Repeat: 3, Count: 7}

// job is a line, and how it is drawn.
type job struct {
	a, b   api.Win
	width  int
	dashed bool
	d      api.Dash
}

// in is what Line answers of the job in r.
func (j job) in(r api.Rect) ([]api.Frag, api.Dash) {
	return Line(j.a, j.b, j.width, j.dashed, j.d, r)
}

// abs is n without its sign.
func abs(n int) int {
	if n < 0 {
		return -n
	}
	return n
}

// floorDiv is n divided by d, which is 1 or more, rounded down.
func floorDiv(n, d int) int {
	rest := (n%d + d) % d
	return (n - rest) / d
}

// chance is a row of numbers that look like chance and are the same at each run.
type chance uint64

// from is the next number from least to greatest.
func (c *chance) from(least, greatest int) int {
	*c ^= *c << 13
	*c ^= *c >> 7
	*c ^= *c << 17
	return least + int(*c>>1)%(greatest-least+1)
}

// win is an end at most so far from the middle by X and by Y, of any depth and color.
func (c *chance) win(far int) api.Win {
	w := api.Win{X: c.from(-far, far), Y: c.from(-far, far), Z: c.from(0, []int{10, 1000, deepest}[c.from(0, 2)])}
	for i := range w.C {
		w.C[i] = c.from(0, 255)
	}
	return w
}

// dash is one that may be, of any kind.
func (c *chance) dash() api.Dash {
	pattern := []int{0, 65535, 1 << c.from(0, 15), c.from(0, 65535), c.from(0, 65535)}[c.from(0, 4)]
	return api.Dash{Pattern: pattern, Repeat: c.from(1, []int{1, 4, 256}[c.from(0, 2)]), Count: c.from(0, []int{0, 300, longest}[c.from(0, 2)])}
}

// job is one between ends at most so far from the middle: level, upright, about as wide as high, or any.
func (c *chance) job(far int) job {
	j := job{a: c.win(far), b: c.win(far), width: []int{1, 2, 3, c.from(1, 9), c.from(1, broadest)}[c.from(0, 4)], dashed: c.from(0, 1) == 1, d: c.dash()}
	switch c.from(0, 6) {
	case 0:
		j.b.X = j.a.X
	case 1:
		j.b.Y = j.a.Y
	case 2:
		j.a.X, j.a.Y = j.b.Y, j.b.X+c.from(-1, 1)
	case 3:
		j.a.X, j.b.X = j.a.X/64*64, j.b.X/64*64
		j.a.Y, j.b.Y = j.a.Y/64*64, j.b.Y/64*64
	}
	return j
}

// rect is one whose numbers are no further from x and y than far.
func (c *chance) rect(x, y, far int) api.Rect {
	x0, y0 := c.from(-far, far-1), c.from(-far, far-1)
	return api.Rect{X0: x + x0, Y0: y + y0, X1: x + c.from(x0+1, far), Y1: y + c.from(y0+1, far)}
}

// byX tells whether X is the longer way of the job's line.
func (j job) byX() bool {
	return abs(j.b.X-j.a.X) >= abs(j.b.Y-j.a.Y)
}

// core is the ends of the job's core: half a pixel to the lesser side for each pixel that it is wide, but one.
func (j job) core() (a, b api.Point) {
	a, b = api.Point{X: j.a.X, Y: j.a.Y}, api.Point{X: j.b.X, Y: j.b.Y}
	for range j.width - 1 {
		if j.byX() {
			a.Y, b.Y = a.Y-128, b.Y-128
		} else {
			a.X, b.X = a.X-128, b.X-128
		}
	}
	return a, b
}

// slowCore is the pixels of the job's core: all around it are asked, and those that are its own are ordered along its longer way.
func (j job) slowCore() []api.Step {
	a, b := j.core()
	var l []api.Step
	for x := floorDiv(min(a.X, b.X), 256) - 1; x <= floorDiv(max(a.X, b.X), 256)+1; x++ {
		for y := floorDiv(min(a.Y, b.Y), 256) - 1; y <= floorDiv(max(a.Y, b.Y), 256)+1; y++ {
			if diamond.Exits(a, b, x, y) {
				l = append(l, api.Step{X: x, Y: y})
			}
		}
	}
	sort.Slice(l, func(i, k int) bool {
		if j.byX() {
			return (l[i].X < l[k].X) == (a.X < b.X)
		}
		return (l[i].Y < l[k].Y) == (a.Y < b.Y)
	})
	for k := range l {
		l[k].K = k
	}
	return l
}

// isLit tells whether the job's pixel k is lit.
func (j job) isLit(k int) bool {
	if !j.dashed {
		return true
	}
	pixels := 0
	for bit := 0; ; bit = (bit + 1) % 16 {
		pixels += j.d.Repeat
		// Where Count is high, whole patterns are left out.
		if (j.d.Count+k)%(16*j.d.Repeat) < pixels {
			return j.d.Pattern&(1<<bit) != 0
		}
	}
}

// standing is what stands, of p at the job's one end and q at the other, at the pixel x, y.
func (j job) standing(p, q, x, y int) int {
	n, d := 256*x+128-j.a.X, j.b.X-j.a.X
	if !j.byX() {
		n, d = 256*y+128-j.a.Y, j.b.Y-j.a.Y
	}
	if d < 0 {
		n, d = -n, -d
	}
	switch {
	case n <= 0:
		return p
	case n >= d:
		return q
	}
	return floorDiv(p*(d-n)+q*n, d)
}

// behind is the fragments of the pixel s of the job's core.
func (j job) behind(s api.Step) []api.Frag {
	f := api.Frag{X: s.X, Y: s.Y, Z: j.standing(j.a.Z, j.b.Z, s.X, s.Y), Cov: 64}
	for i := range f.C {
		f.C[i] = j.standing(j.a.C[i], j.b.C[i], s.X, s.Y)
	}
	var l []api.Frag
	for len(l) < j.width {
		l = append(l, f)
		if j.byX() {
			f.Y++
		} else {
			f.X++
		}
	}
	return l
}

// slow is the job's fragments, of these pixels of its core.
func (j job) slow(core []api.Step) []api.Frag {
	var l []api.Frag
	for _, s := range core {
		if j.isLit(s.K) {
			l = append(l, j.behind(s)...)
		}
	}
	return l
}

// later is the dash behind the job, of whose core there are so many pixels.
func (j job) later(count int) api.Dash {
	if !j.dashed {
		return j.d
	}
	return api.Dash{Pattern: j.d.Pattern, Repeat: j.d.Repeat, Count: (j.d.Count + count) % (16 * j.d.Repeat)}
}

// inside is those of l whose pixels are in r.
func inside(l []api.Frag, r api.Rect) []api.Frag {
	var some []api.Frag
	for _, f := range l {
		if r.X0 <= f.X && f.X < r.X1 && r.Y0 <= f.Y && f.Y < r.Y1 {
			some = append(some, f)
		}
	}
	return some
}

// pixels is where fragments are.
func pixels(l []api.Frag) [][2]int {
	var some [][2]int
	for _, f := range l {
		some = append(some, [2]int{f.X, f.Y})
	}
	return some
}

// pairs is pixels, written out as X, Y, X, Y.
func pairs(xy ...int) [][2]int {
	var l [][2]int
	for i := 0; i < len(xy); i += 2 {
		l = append(l, [2]int{xy[i], xy[i+1]})
	}
	return l
}

// win is an end at x, y, with that depth and color.
func win(x, y, z int, c ...int) api.Win {
	w := api.Win{X: x, Y: y, Z: z}
	copy(w.C[:], c)
	return w
}

// thick is a job that is not dashed.
func thick(a, b api.Win, width int) job {
	return job{a: a, b: b, width: width, d: plain}
}

// unlike tells where fragments are other ones than they must be, of which there may be very many.
func unlike(got, want []api.Frag) string {
	i := 0
	for i < min(len(got), len(want)) && got[i] == want[i] {
		i++
	}
	return fmt.Sprintf("%d fragments, not %d; from %d on %v, not %v", len(got), len(want), i, got[i:min(i+3, len(got))], want[i:min(i+3, len(want))])
}

// checkIn holds what Line answers in r against these.
func checkIn(t *testing.T, j job, r api.Rect, want []api.Frag, later api.Dash) {
	t.Helper()
	got, d := j.in(r)
	if !slices.Equal(got, want) {
		t.Errorf("P17.1: Line of %+v in %v: %s", j, r, unlike(got, want))
	}
	if d != later {
		t.Errorf("P17.1: Line of %+v in %v: behind it %v, not %v", j, r, d, later)
	}
}

// checkWhole holds a line, as a whole and in some rectangles, against the pixels that are around it.
func checkWhole(t *testing.T, j job, some ...api.Rect) {
	t.Helper()
	if !Right(j.a, j.b, j.width, j.d) {
		t.Errorf("P17.1: %+v may not be", j)
	}
	core := j.slowCore()
	whole, later := j.slow(core), j.later(len(core))
	for _, r := range append(some, everywhere) {
		checkIn(t, j, r, inside(whole, r), later)
	}
}

func TestExample(t *testing.T) {
	got, d := Line(win(128, 128, 0), win(640, 128, 0), 2, false, plain, everywhere)
	if !slices.Equal(pixels(got), pairs(0, -1, 0, 0, 1, -1, 1, 0)) || d != plain {
		t.Errorf("P17.1: two wide, from 128 128 to 640 128: %v, %v", pixels(got), d)
	}
}

func TestPixelsWritten(t *testing.T) {
	for _, c := range []struct {
		ax, ay, bx, by, width int
		want                  [][2]int
	}{
		// Level, to the right and to the left: the core goes half a row down for each pixel more.
		{128, 128, 640, 128, 1, pairs(0, 0, 1, 0)}, {640, 128, 128, 128, 1, pairs(2, 0, 1, 0)},
		{640, 128, 128, 128, 2, pairs(1, -1, 1, 0, 0, -1, 0, 0)}, {128, 128, 640, 128, 3, pairs(0, -1, 0, 0, 0, 1, 1, -1, 1, 0, 1, 1)},
		{640, 128, 128, 128, 3, pairs(2, -1, 2, 0, 2, 1, 1, -1, 1, 0, 1, 1)}, {128, 128, 384, 128, 4, pairs(0, -2, 0, -1, 0, 0, 0, 1)},
		{128, 128, 384, 128, 5, pairs(0, -2, 0, -1, 0, 0, 0, 1, 0, 2)}, {128, 128, 384, 128, 6, pairs(0, -3, 0, -2, 0, -1, 0, 0, 0, 1, 0, 2)},
		// At the boundary of two rows, one wide below it, two wide on both sides, and one unit above and below it.
		{128, 256, 640, 256, 1, pairs(0, 0, 1, 0)}, {128, 256, 640, 256, 2, pairs(0, 0, 0, 1, 1, 0, 1, 1)},
		{128, 256, 384, 256, 3, pairs(0, -1, 0, 0, 0, 1)}, {0, 257, 256, 257, 1, pairs(0, 1)}, {0, 255, 256, 255, 1, pairs(0, 0)},
		{0, 129, 256, 129, 2, pairs(0, 0, 0, 1)}, {0, 127, 256, 127, 2, pairs(0, -1, 0, 0)},
		// Upright, up and down.
		{128, 128, 128, 640, 1, pairs(0, 0, 0, 1)}, {128, 640, 128, 128, 1, pairs(0, 2, 0, 1)},
		{128, 128, 128, 640, 2, pairs(-1, 0, 0, 0, -1, 1, 0, 1)}, {128, 640, 128, 128, 2, pairs(-1, 2, 0, 2, -1, 1, 0, 1)},
		{128, 128, 128, 640, 3, pairs(-1, 0, 0, 0, 1, 0, -1, 1, 0, 1, 1, 1)}, {128, 128, 128, 384, 4, pairs(-2, 0, -1, 0, 0, 0, 1, 0)},
		{256, 128, 256, 640, 2, pairs(0, 0, 1, 0, 0, 1, 1, 1)}, {129, 0, 129, 256, 2, pairs(0, 0, 1, 0)}, {127, 0, 127, 256, 2, pairs(-1, 0, 0, 0)},
		// As wide as high: X is the longer way.
		{128, 128, 640, 640, 1, pairs(0, 0, 1, 1)}, {128, 128, 640, 640, 2, pairs(0, 0, 0, 1, 1, 1, 1, 2)},
		{128, 640, 640, 128, 2, pairs(0, 1, 0, 2, 1, 0, 1, 1)}, {128, 128, 640, 640, 3, pairs(0, -1, 0, 0, 0, 1, 1, 0, 1, 1, 1, 2)},
		{640, 640, 128, 128, 3, pairs(2, 1, 2, 2, 2, 3, 1, 0, 1, 1, 1, 2)}, {640, 128, 128, 640, 3, pairs(2, -1, 2, 0, 2, 1, 1, 0, 1, 1, 1, 2)},
		// One unit wider, and one unit higher: then it is Y.
		{128, 128, 641, 640, 3, pairs(0, -1, 0, 0, 0, 1, 1, 0, 1, 1, 1, 2)}, {128, 128, 640, 641, 3, pairs(-1, 0, 0, 0, 1, 0, 0, 1, 1, 1, 2, 1)},
		{640, 128, 128, 641, 3, pairs(1, 0, 2, 0, 3, 0, 0, 1, 1, 1, 2, 1)},
		// Flat and steep.
		{128, 128, 640, 384, 1, pairs(0, 0, 1, 1)}, {128, 128, 640, 384, 2, pairs(0, 0, 0, 1, 1, 0, 1, 1)},
		{128, 128, 640, 384, 3, pairs(0, -1, 0, 0, 0, 1, 1, 0, 1, 1, 1, 2)}, {128, 128, 384, 640, 2, pairs(-1, 0, 0, 0, 0, 1, 1, 1)},
		{128, 128, 384, 640, 3, pairs(-1, 0, 0, 0, 1, 0, -1, 1, 0, 1, 1, 1)},
		// From a point to itself, in one diamond, and out of it.
		{128, 128, 128, 128, 1, nil}, {128, 128, 128, 128, 64, nil}, {100, 100, 150, 150, 1, nil}, {100, 100, 150, 150, 3, nil},
		{128, 128, 255, 255, 1, pairs(0, 0)}, {128, 128, 255, 255, 2, nil}, {128, 128, 255, 255, 3, pairs(0, -1, 0, 0, 0, 1)},
	} {
		j := thick(win(c.ax, c.ay, 0), win(c.bx, c.by, 0), c.width)
		if got, d := j.in(everywhere); !slices.Equal(pixels(got), c.want) || d != plain {
			t.Errorf("P17.1: Line of %+v: %v, %v; not %v", j, pixels(got), d, c.want)
		}
		checkWhole(t, j)
	}
}

func TestLooksWritten(t *testing.T) {
	a, b := win(128, 128, 0, 0, 255, 10, 200), win(1152, 128, 1000, 255, 0, 14, 200)
	first, second := api.Color{0, 255, 10, 200}, api.Color{63, 191, 11, 200}
	third, fourth := api.Color{127, 127, 12, 200}, api.Color{191, 63, 13, 200}
	want := []api.Frag{{X: 0, Y: -1, Z: 0, C: first, Cov: 64}, {X: 0, Y: 0, Z: 0, C: first, Cov: 64},
		{X: 1, Y: -1, Z: 250, C: second, Cov: 64}, {X: 1, Y: 0, Z: 250, C: second, Cov: 64},
		{X: 2, Y: -1, Z: 500, C: third, Cov: 64}, {X: 2, Y: 0, Z: 500, C: third, Cov: 64},
		{X: 3, Y: -1, Z: 750, C: fourth, Cov: 64}, {X: 3, Y: 0, Z: 750, C: fourth, Cov: 64}}
	checkIn(t, thick(a, b, 2), everywhere, want, plain)
	// Just what is in a rectangle: the first pixel's fragments, the last one's, one row, and one fragment.
	checkIn(t, thick(a, b, 2), api.Rect{X0: -9, Y0: -9, X1: 1, Y1: 9}, want[:2], plain)
	checkIn(t, thick(a, b, 2), api.Rect{X0: 3, Y0: -9, X1: 9, Y1: 9}, want[6:], plain)
	checkIn(t, thick(a, b, 2), api.Rect{X0: 1, Y0: 0, X1: 3, Y1: 9}, []api.Frag{want[3], want[5]}, plain)
	checkIn(t, thick(a, b, 2), api.Rect{X0: 2, Y0: -1, X1: 3, Y1: 0}, want[4:5], plain)
	checkIn(t, thick(a, b, 2), api.Rect{X0: 0, Y0: 1, X1: 4, Y1: 9}, nil, plain)
	checkIn(t, thick(a, b, 2), api.Rect{X0: 0, Y0: -9, X1: 4, Y1: -1}, nil, plain)
	// Dashed: of the bits 1 1 0 1 and on, from the second one on.
	d := api.Dash{Pattern: 11, Repeat: 1, Count: 1}
	checkIn(t, job{a, b, 2, true, d}, everywhere, slices.Concat(want[:2], want[4:6]), api.Dash{Pattern: 11, Repeat: 1, Count: 5})
	checkIn(t, job{a, b, 2, true, d}, api.Rect{X0: 1, Y0: 0, X1: 3, Y1: 9}, want[5:6], api.Dash{Pattern: 11, Repeat: 1, Count: 5})
	checkIn(t, job{a, b, 2, true, d}, api.Rect{X0: 50, Y0: 0, X1: 53, Y1: 9}, nil, api.Dash{Pattern: 11, Repeat: 1, Count: 5})
	checkIn(t, job{a, b, 2, false, d}, everywhere, want, d)
	// Backwards, and upright: the first of its pixels has b's look, and each further one goes on.
	back, up := thick(b, a, 1), thick(win(128, 128, 0, 0, 255, 10, 200), win(128, 1152, 1000, 255, 0, 14, 200), 1)
	checkIn(t, back, everywhere, []api.Frag{{X: 4, Z: 1000, C: b.C, Cov: 64}, {X: 3, Z: 750, C: fourth, Cov: 64},
		{X: 2, Z: 500, C: third, Cov: 64}, {X: 1, Z: 250, C: second, Cov: 64}}, plain)
	checkIn(t, up, everywhere, []api.Frag{{C: first, Cov: 64}, {Y: 1, Z: 250, C: second, Cov: 64},
		{Y: 2, Z: 500, C: third, Cov: 64}, {Y: 3, Z: 750, C: fourth, Cov: 64}}, plain)
}

// net is the points of two pixels each way that lie at these places of them.
func net(places ...int) []api.Win {
	var l []api.Win
	for _, x := range places {
		for _, y := range places {
			for i := range 4 {
				l = append(l, win(x-i%2*256, y-i/2*256, 7+x*y, i, 250-i, x&255, y&255))
			}
		}
	}
	return l
}

func TestAllLinesOfANet(t *testing.T) {
	some := []api.Rect{{X0: 0, Y0: 0, X1: 1, Y1: 1}, {X0: -1, Y0: -2, X1: 1, Y1: 1}, {X0: -9, Y0: -1, X1: 9, Y1: 0}, {X0: 0, Y0: -9, X1: 1, Y1: 9}}
	for _, l := range [][]api.Win{net(0, 64, 128, 256), net(1, 127, 129, 200)} {
		for _, a := range l {
			for _, b := range l {
				for width := 1; width <= 4; width++ {
					checkWhole(t, thick(a, b, width), some...)
					checkWhole(t, job{a, b, width, true, api.Dash{Pattern: 0xF5A6, Repeat: 1, Count: 13}}, some...)
				}
			}
			if t.Failed() {
				return
			}
		}
	}
}

func TestLinesOfManyPixels(t *testing.T) {
	c := chance(17)
	for range 10000 {
		j := c.job([]int{300, 700, 2500}[c.from(0, 2)])
		x, y := j.a.X/256, j.b.Y/256
		checkWhole(t, j, c.rect(0, 0, 4), c.rect(x, y, 10), c.rect(y, x, 40), c.rect(x, y, 2))
		if t.Failed() {
			return
		}
	}
}

func TestEachWidth(t *testing.T) {
	for width := 1; width <= broadest; width++ {
		for _, b := range []api.Win{win(700, 30, 9), win(-700, 30, 9), win(40, 800, 9), win(40, -800, 9), win(600, 600, 9), win(-600, 600, 9)} {
			j := thick(win(30, 30, 1000, 1, 2, 3, 255), b, width)
			l, _ := j.in(everywhere)
			a, e := j.core()
			if len(l) != width*walk.Count(a, e) || len(l) == 0 {
				t.Errorf("P17.1: Line of %+v: %d fragments of %d pixels", j, len(l), walk.Count(a, e))
			}
			checkWhole(t, j, api.Rect{X0: 1, Y0: -40, X1: 2, Y1: 40}, api.Rect{X0: -40, Y0: 1, X1: 40, Y1: 2})
		}
	}
}

// TestEachRectangle holds lines against all rectangles about them, and about single fragments of theirs.
func TestEachRectangle(t *testing.T) {
	c := chance(5)
	var all []api.Rect
	for i := range 6 * 6 * 6 * 6 {
		r := api.Rect{X0: i%6 - 3, Y0: i/6%6 - 3, X1: i/36%6 - 2, Y1: i/216 - 2}
		if r.X0 < r.X1 && r.Y0 < r.Y1 {
			all = append(all, r)
		}
	}
	for range 300 {
		j := c.job(600)
		j.width = c.from(1, 6)
		checkWhole(t, j, all...)
	}
	for range 1000 {
		j := c.job(1500)
		core := j.slowCore()
		whole, later := j.slow(core), j.later(len(core))
		for _, f := range whole[:min(len(whole), 300)] {
			one := api.Rect{X0: f.X, Y0: f.Y, X1: f.X + 1, Y1: f.Y + 1}
			checkIn(t, j, one, inside(whole, one), later)
		}
	}
}

// patterns are some with no bit set, with one, with some, and with all.
func patterns() []int {
	return []int{0, 1, 2, 1 << 7, 1 << 15, 5, 0x8001, 0x5555, 0x00FF, 0x1234, 0x7FFF, 0xFFFE, 0xFFFF}
}

func TestEachDash(t *testing.T) {
	a, b := win(100, 70, 5, 255, 0, 9, 1), win(9000, 3000, 5000, 0, 255, 1, 9)
	core := thick(a, b, 3).slowCore()
	for _, p := range patterns() {
		for _, repeat := range []int{1, 2, 3, 16, 255, 256} {
			for _, count := range []int{0, 1, repeat, 15*repeat - 1, 16*repeat - 1, 16 * repeat, 16*repeat + 1, 1 << 32, longest - 1, longest} {
				j := job{a, b, 3, true, api.Dash{Pattern: p, Repeat: repeat, Count: count}}
				want, later := j.slow(core), j.later(len(core))
				checkIn(t, j, everywhere, want, later)
				r := api.Rect{X0: 10, Y0: 2, X1: 25, Y1: 5}
				checkIn(t, j, r, inside(want, r), later)
				checkIn(t, job{a, b, 3, false, j.d}, r, inside(thick(a, b, 3).slow(core), r), j.d)
			}
		}
		if t.Failed() {
			return
		}
	}
}

// TestDashCountsWhatIsNotSeen holds that the dash goes on by all pixels of the core, wherever the rectangle is, and by none of a line of none.
func TestDashCountsWhatIsNotSeen(t *testing.T) {
	d := api.Dash{Pattern: 0x0F0F, Repeat: 2, Count: 30}
	for _, r := range []api.Rect{everywhere, {X0: 2, Y0: 0, X1: 3, Y1: 1}, {X0: 900, Y0: 900, X1: 901, Y1: 901}, {}, {X0: 5, Y0: 5, X1: 5, Y1: 9}} {
		for _, c := range [][2]int{{0, 30}, {1, 31}, {2, 0}, {3, 1}, {34, 0}, {100, 2}} {
			_, got := Line(win(128, 128, 0), win(128+256*c[0], 128, 0), 2, true, d, r)
			if want := (api.Dash{Pattern: 0x0F0F, Repeat: 2, Count: c[1]}); got != want {
				t.Errorf("P17.1: behind %d pixels, in %v: %v, not %v", c[0], r, got, want)
			}
		}
	}
	// Of a line without pixels Count comes below 16 times Repeat, too.
	l, got := Line(win(5, 5, 0), win(5, 5, 0), 1, true, api.Dash{Pattern: 1, Repeat: 256, Count: longest}, everywhere)
	if want := (api.Dash{Pattern: 1, Repeat: 256}); len(l) != 0 || got != want {
		t.Errorf("P17.1: from a point to itself: %v, %v; not %v", l, got, want)
	}
}

// checkAround holds what Line answers about the pixel k of a job's core, however many it has, against what layer 14 tells there.
func checkAround(t *testing.T, j job, k int, c *chance) {
	t.Helper()
	a, b := j.core()
	count := walk.Count(a, b)
	at, _ := walk.At(a, b, k)
	var near []api.Step
	for n := max(0, k-9); n <= min(count-1, k+9); n++ {
		s, _ := walk.At(a, b, n)
		near = append(near, s)
	}
	whole, later := j.slow(near), j.later(count)
	aside := c.from(0, j.width-1)
	x, y := at.X, at.Y+aside
	if !j.byX() {
		x, y = at.X+aside, at.Y
	}
	for _, r := range []api.Rect{{X0: x, Y0: y, X1: x + 1, Y1: y + 1}, {X0: x - 1, Y0: y - 1, X1: x + 2, Y1: y + 2}} {
		checkIn(t, j, r, inside(whole, r), later)
	}
	if !Right(j.a, j.b, j.width, j.d) {
		t.Errorf("P17.1: %+v may not be", j)
	}
}

// bound is an end at the bounds of places, depths and colors, or about the middle.
func (c *chance) bound() api.Win {
	w := api.Win{X: []int{-place, place, 0}[c.from(0, 2)], Y: []int{-place, place, 0}[c.from(0, 2)], Z: c.from(0, 1) * deepest}
	for i := range w.C {
		w.C[i] = c.from(0, 1) * 255
	}
	return w
}

func TestFarLines(t *testing.T) {
	c := chance(28)
	for i := range 4000 {
		j := c.job(place)
		if i%2 == 0 {
			j.a, j.b = c.bound(), c.bound()
			j.width = []int{1, 2, 63, 64}[c.from(0, 3)]
		}
		if i%3 == 0 {
			j.b.X, j.b.Y = max(-place, min(place, j.b.X+c.from(-1, 1))), max(-place, min(place, j.b.Y+c.from(-1, 1)))
		}
		a, b := j.core()
		count := walk.Count(a, b)
		if count == 0 {
			continue
		}
		for _, k := range []int{0, min(1, count-1), count / 2, count - 1, c.from(0, count-1)} {
			checkAround(t, j, k, &c)
		}
		if t.Failed() {
			return
		}
	}
}

func TestFarLinesWritten(t *testing.T) {
	white, last := api.Color{255, 255, 255, 255}, 1<<20-1
	d := api.Dash{Pattern: 0x8000, Repeat: 256, Count: longest}
	for _, c := range []struct {
		j    job
		r    api.Rect
		want []api.Frag
		went int
	}{
		// From bound to bound there are 2^21 pixels, and the boundary at the least one belongs to the pixel left of it, or below.
		{job{win(-place, 0, 0), win(place, 0, deepest, 255, 255, 255, 255), 1, false, d}, api.Rect{X0: last, Y0: -9, X1: last + 9, Y1: 9},
			[]api.Frag{{X: last, Y: -1, Z: deepest - 4, C: api.Color{254, 254, 254, 254}, Cov: 64}}, 0},
		{job{win(-place, 0, 0), win(place, 0, deepest, 255, 255, 255, 255), 2, true, d}, api.Rect{X0: last, Y0: -1, X1: last + 9, Y1: 0}, nil, 1 << 21},
		{job{win(place, place, deepest, 255, 255, 255, 255), win(-place, place, deepest, 255, 255, 255, 255), 64, false, d},
			api.Rect{X0: last, Y0: last + 32, X1: border, Y1: border}, []api.Frag{{X: last, Y: last + 32, Z: deepest, C: white, Cov: 64}}, 0},
		{job{win(-place, -place, 9), win(place, -place, 9), 64, false, d}, api.Rect{X0: 5, Y0: -border, X1: 6, Y1: -last - 32},
			[]api.Frag{{X: 5, Y: -last - 33, Z: 9, Cov: 64}}, 0},
		{job{win(-place, place, 9), win(-place, -place, 9), 64, false, d}, api.Rect{X0: -border, Y0: 5, X1: -last - 32, Y1: 6},
			[]api.Frag{{X: -last - 33, Y: 5, Z: 9, Cov: 64}}, 0},
		{job{win(place, -place, 9), win(place, place, 9), 64, false, d}, api.Rect{X0: last + 32, Y0: 5, X1: border, Y1: 6},
			[]api.Frag{{X: last + 32, Y: 5, Z: 9, Cov: 64}}, 0},
		// Of a dash of 2^12 pixels the last 256 are lit, as if none went ahead. The first pixel has the bound in its right corner.
		{job{win(-place, 128, 9), win(place, 128, 9), 1, true, d}, api.Rect{X0: -1<<20 + 3800, Y0: 0, X1: -1<<20 + 3840, Y1: 1},
			[]api.Frag{{X: -1<<20 + 3839, Z: 9, Cov: 64}}, 1 << 21},
		{job{win(-place, 128, 9), win(place, 128, 9), 1, true, d}, api.Rect{X0: -1<<20 + 4094, Y0: 0, X1: -1<<20 + 4150, Y1: 1},
			[]api.Frag{{X: -1<<20 + 4094, Z: 9, Cov: 64}}, 1 << 21},
		// 47 went ahead: the next one is the last one of the bit 15.
		{job{win(-place, -place, 9), win(place, place, 9), 1, true, api.Dash{Pattern: 1, Repeat: 3, Count: 47}},
			api.Rect{X0: -1 << 20, Y0: -1 << 20, X1: -1<<20 + 9, Y1: border}, []api.Frag{{X: -1<<20 + 1, Y: -1<<20 + 1, Z: 9, Cov: 64},
				{X: -1<<20 + 2, Y: -1<<20 + 2, Z: 9, Cov: 64}, {X: -1<<20 + 3, Y: -1<<20 + 3, Z: 9, Cov: 64}}, 1 << 21},
	} {
		checkIn(t, c.j, c.r, c.want, c.j.later(c.went))
	}
}

// TestALongLineAsAWhole holds a line of very many pixels, of which few are lit, in the greatest rectangle.
func TestALongLineAsAWhole(t *testing.T) {
	j := job{win(place, 128, 0), win(-place, 128, deepest, 255), 2, true, api.Dash{Pattern: 1 << 9, Repeat: 128, Count: 5}}
	got, d := j.in(everywhere)
	if len(got) != 2<<17 || d != (api.Dash{Pattern: 1 << 9, Repeat: 128, Count: 5}) {
		t.Fatalf("P17.1: Line of %+v: %d fragments, %v", j, len(got), d)
	}
	for i, f := range got {
		x := 1<<20 - 1 - (i / 256 * 2048) - (9*128 - 5) - i/2%128
		want := j.behind(api.Step{X: x, Y: -1})[i%2]
		if f != want {
			t.Fatalf("P17.1: Line of %+v: %v at %d, not %v", j, f, i, want)
		}
	}
}

// A line that were gone through from its begin on for each of these rectangles would take hours.
func TestFewOfVeryManyPixels(t *testing.T) {
	c := chance(70)
	for range 20000 {
		j := job{c.win(place), c.win(place), c.from(1, broadest), true, c.dash()}
		j.a.X, j.b.X = -place, place
		if c.from(0, 1) == 0 {
			j.a.X, j.a.Y, j.b.X, j.b.Y = j.b.Y, j.b.X, j.a.Y, j.a.X
		}
		a, b := j.core()
		count := walk.Count(a, b)
		s, _ := walk.At(a, b, c.from(0, count-1))
		f := j.behind(s)[c.from(0, j.width-1)]
		got, d := j.in(api.Rect{X0: f.X, Y0: f.Y, X1: f.X + 1, Y1: f.Y + 1})
		if slices.Contains(got, f) != j.isLit(s.K) || d != j.later(count) {
			t.Fatalf("P17.1: Line of %+v at %v: %v, %v", j, f, got, d)
		}
	}
}

// TestRectanglesAtTheBounds holds rectangles that reach up to the bounds: what is in them is shown, whatever the width.
func TestRectanglesAtTheBounds(t *testing.T) {
	c := chance(22)
	for range 400 {
		j := c.job(2500)
		x, y := c.from(-9, 9), c.from(-9, 9)
		checkWhole(t, j, api.Rect{X0: -border, Y0: -border, X1: x, Y1: y}, api.Rect{X0: x, Y0: y, X1: border, Y1: border},
			api.Rect{X0: -border, Y0: y, X1: border, Y1: y + 1}, api.Rect{X0: x, Y0: -border, X1: x + 1, Y1: border},
			api.Rect{X0: -border, Y0: -border, X1: 1 - border, Y1: 1 - border}, api.Rect{X0: -border, Y0: -border, X1: 1 - border, Y1: border},
			api.Rect{X0: -border, Y0: border - 1, X1: border, Y1: border}, api.Rect{X0: border - 1, Y0: border - 1, X1: border, Y1: border},
			api.Rect{X0: 64 - border, Y0: 63 - border, X1: x, Y1: y}, api.Rect{X0: 63 - border, Y0: 62 - border, X1: x, Y1: y})
		if t.Failed() {
			return
		}
	}
}

// checkRight tells of a Right that isn't as it must be, and of a Line that draws what may not be, or goes on with its dash.
func checkRight(t *testing.T, j job, want bool) {
	t.Helper()
	if got := Right(j.a, j.b, j.width, j.d); got != want {
		t.Errorf("P17.1: Right(%v, %v, %d, %v): %v", j.a, j.b, j.width, j.d, got)
	}
	if want {
		return
	}
	for _, r := range []api.Rect{{X0: -20, Y0: -20, X1: 20, Y1: 20}, everywhere, {}, {X0: math.MinInt, Y0: 0, X1: math.MaxInt, Y1: 1}} {
		for _, j.dashed = range []bool{false, true} {
			checkIn(t, j, r, nil, j.d)
		}
	}
}

// bounded is one of a job's numbers: which, and from where to where it may be.
type bounded struct {
	of              func(j *job) *int
	least, greatest int
}

// numbers are all of a job that have bounds.
func numbers() []bounded {
	l := []bounded{
		{func(j *job) *int { return &j.width }, 1, broadest},
		{func(j *job) *int { return &j.d.Pattern }, 0, 65535},
		{func(j *job) *int { return &j.d.Repeat }, 1, 256},
		{func(j *job) *int { return &j.d.Count }, 0, longest},
	}
	for _, end := range []func(j *job) *api.Win{func(j *job) *api.Win { return &j.a }, func(j *job) *api.Win { return &j.b }} {
		l = append(l, bounded{func(j *job) *int { return &end(j).X }, -place, place}, bounded{func(j *job) *int { return &end(j).Y }, -place, place},
			bounded{func(j *job) *int { return &end(j).Z }, 0, deepest})
		for i := range 4 {
			l = append(l, bounded{func(j *job) *int { return &end(j).C[i] }, 0, 255})
		}
	}
	return l
}

// wrongs is numbers that this one may not be: one below and above what may, further out, and at the ends of the int's range.
func (b bounded) wrongs() []int {
	return []int{b.least - 1, b.greatest + 1, b.least - 256, b.greatest + 256, -1 << 32, 1<<41 + 1, 1<<48 + 1, math.MinInt, math.MinInt + 1,
		math.MaxInt - 1, math.MaxInt, math.MinInt + place, math.MaxInt - place, -longest - 1, longest + 1, 1 << 62, -1 << 62}
}

func TestRight(t *testing.T) {
	c := chance(31)
	base := job{win(100, 100, 5, 1, 2, 3, 4), win(2000, 900, 50, 40, 30, 20, 10), 3, false, api.Dash{Pattern: 0xF0F5, Repeat: 2, Count: 3}}
	checkRight(t, base, true)
	for _, b := range numbers() {
		for _, n := range []int{b.least, b.least + 1, b.greatest - 1, b.greatest} {
			j := base
			*b.of(&j) = n
			checkRight(t, j, true)
		}
		for _, n := range b.wrongs() {
			j := base
			*b.of(&j) = n
			checkRight(t, j, false)
			j = c.job(place)
			*b.of(&j) = n
			checkRight(t, j, false)
		}
	}
	for _, b := range numbers() {
		for _, other := range numbers() {
			j := base
			*b.of(&j), *other.of(&j) = b.wrongs()[c.from(0, 16)], other.wrongs()[c.from(0, 16)]
			checkRight(t, j, false)
		}
	}
	checkRight(t, job{}, false)
	// All at their bounds, the least ones and the greatest.
	least, greatest := base, base
	for _, b := range numbers() {
		*b.of(&least), *b.of(&greatest) = b.least, b.greatest
	}
	checkRight(t, least, true)
	checkRight(t, greatest, true)
}

// wrongRects is rectangles that may not be, that lines about the middle would be in, were it not for that.
func wrongRects() []api.Rect {
	l := []api.Rect{{}, {X0: 20, Y0: 20, X1: -20, Y1: -20}, {X0: 1, Y0: -20, X1: 1, Y1: 20}, {X0: -20, Y0: 1, X1: 20, Y1: 1},
		{X0: math.MinInt, Y0: math.MinInt, X1: math.MaxInt, Y1: math.MaxInt}, {X0: math.MaxInt, Y0: math.MaxInt, X1: math.MinInt, Y1: math.MinInt}}
	for i := range 4 {
		for _, n := range []int{20, 21, 40, border, border + 1, math.MaxInt - 63, math.MaxInt} {
			r := api.Rect{X0: -20, Y0: -20, X1: 20, Y1: 20}
			ways := [4]*int{&r.X0, &r.Y0, &r.X1, &r.Y1}
			*ways[i] = n
			if i > 1 {
				*ways[i] = -n
			}
			l = append(l, r)
		}
		for _, n := range []int{border + 1, border + 64, math.MaxInt - 63, math.MaxInt} {
			r := api.Rect{X0: -20, Y0: -20, X1: 20, Y1: 20}
			ways := [4]*int{&r.X0, &r.Y0, &r.X1, &r.Y1}
			*ways[i] = n
			if i < 2 {
				*ways[i] = -n
			}
			l = append(l, r)
		}
	}
	return l
}

func TestWrongRectangles(t *testing.T) {
	c := chance(77)
	for range 300 {
		j := c.job(2500)
		j.width = c.from(1, broadest)
		count := len(j.slowCore())
		for _, r := range wrongRects() {
			checkIn(t, j, r, nil, j.later(count))
		}
	}
}

// TestGreaterRectangles holds what a rectangle shows against what a greater one shows there.
func TestGreaterRectangles(t *testing.T) {
	c := chance(11)
	some := 0
	for i := range 4000 {
		j := c.job([]int{3000, 20000, place}[c.from(0, 2)])
		x, y := j.a.X/256, j.a.Y/256
		if i%2 == 0 {
			x, y = (j.a.X+j.b.X)/512, (j.a.Y+j.b.Y)/512
		}
		greater := c.rect(x, y, 80)
		l, d := j.in(greater)
		for range 5 {
			lesser := api.Rect{X0: c.from(greater.X0, greater.X1-1), Y0: c.from(greater.Y0, greater.Y1-1)}
			lesser.X1, lesser.Y1 = c.from(lesser.X0+1, greater.X1), c.from(lesser.Y0+1, greater.Y1)
			want := inside(l, lesser)
			some += min(1, len(want))
			if got, e := j.in(lesser); !slices.Equal(got, want) || d != e {
				t.Fatalf("P17.2: Line of %+v in %v, and not in %v: %s; behind it %v, and %v", j, lesser, greater, unlike(got, want), e, d)
			}
		}
	}
	if some < 1000 {
		t.Errorf("P17.2: just %d rectangles showed something", some)
	}
}

// TestOneWide holds that no two fragments of such a line are of one pixel.
func TestOneWide(t *testing.T) {
	c := chance(12)
	for range 5000 {
		j := c.job([]int{300, 3000, 20000}[c.from(0, 2)])
		j.width = 1
		l, _ := j.in(everywhere)
		seen := map[[2]int]bool{}
		for _, p := range pixels(l) {
			if seen[p] {
				t.Errorf("P17.2: Line of %+v: twice %v", j, p)
			}
			seen[p] = true
		}
	}
}

// TestDashedParts holds parts of a line, each with the dash that the one ahead left, against the whole.
func TestDashedParts(t *testing.T) {
	c := chance(13)
	for range 20000 {
		pieces := c.from(1, 12)
		far := []int{30, 200, 3000}[c.from(0, 2)]
		x, y := c.from(-far, far), c.from(-far, far)
		a := c.win(2000)
		b := a
		b.X, b.Y = a.X+x*pieces, a.Y+y*pieces
		whole := job{a, b, c.from(1, 6), c.from(0, 3) > 0, c.dash()}
		r := []api.Rect{everywhere, c.rect(0, 0, 30)}[c.from(0, 1)]
		want, d := whole.in(r)
		var got []api.Frag
		part := whole
		for part.b = a; part.b != b; {
			part.a = part.b
			steps := c.from(1, pieces)
			pieces -= steps
			part.b.X, part.b.Y = part.a.X+steps*x, part.a.Y+steps*y
			l, later := part.in(r)
			got, part.d = append(got, l...), later
		}
		if !slices.Equal(got, want) {
			t.Fatalf("P17.2: Line of %+v, in parts: %s", whole, unlike(got, want))
		}
		if a != b && part.d != d {
			t.Fatalf("P17.2: Line of %+v: %v behind it, and %v behind its parts", whole, d, part.d)
		}
	}
}

// TestNewMemory spoils an answer, and asks again.
func TestNewMemory(t *testing.T) {
	j := job{win(100, 100, 5, 1, 2, 3, 4), win(2000, 900, 50, 40, 30, 20, 10), 3, true, api.Dash{Pattern: 0xF0F5, Repeat: 2, Count: 3}}
	first, d := j.in(everywhere)
	want := slices.Clone(first)
	for i := range first[:cap(first)] {
		first[:cap(first)][i] = api.Frag{X: -1, Y: -1, Z: -1, Cov: -1}
	}
	if again, e := j.in(everywhere); !slices.Equal(again, want) || d != e || len(want) == 0 {
		t.Errorf("P17.1: Line of %+v, once more: %s", j, unlike(again, want))
	}
}

// TestAnyNumbers asks for lines of numbers of all kinds: the calls must end, and not panic.
func TestAnyNumbers(t *testing.T) {
	c := chance(99)
	any := []int{math.MinInt, math.MinInt + 1, -1 << 32, -place, -1, 0, 1, 2, 64, 255, place, 1 << 32, 1 << 62, math.MaxInt - 1, math.MaxInt}
	for range 200000 {
		j := c.job(place)
		for _, b := range numbers() {
			if c.from(0, 20) == 0 {
				*b.of(&j) = any[c.from(0, len(any)-1)]
			}
		}
		x, y := any[c.from(0, len(any)-1)], any[c.from(0, len(any)-1)]
		j.in(api.Rect{X0: x, Y0: y, X1: x + c.from(0, 70), Y1: y + c.from(0, 70)})
	}
}
