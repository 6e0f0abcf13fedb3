package tri

import (
	"fmt"
	"math"
	"math/big"
	"slices"
	"sort"
	"testing"

	"rastrum/api"
)

const (
	place   = 1 << 28 // the greatest X and Y, written out
	border  = 1 << 22 // the greatest number of a rectangle, and of a pixel that is asked for
	outmost = 1 << 20 // the pixel in which the greatest X and Y lie
)

// everywhere is the greatest rectangle, and here one about the middle.
var (
	everywhere = api.Rect{X0: -border, Y0: -border, X1: border, Y1: border}
	here       = api.Rect{X0: -20, Y0: -20, X1: 20, Y1: 20}
)

// job is a triangle.
type job [3]api.Win

// at is the triangle whose corners lie there.
func at(ax, ay, bx, by, cx, cy int) job {
	return job{{X: ax, Y: ay}, {X: bx, Y: by}, {X: cx, Y: cy}}
}

// area is what Area answers of the triangle.
func (j job) area() int {
	return Area(j[0], j[1], j[2])
}

// has is what Has answers of the triangle.
func (j job) has(x, y int) bool {
	return Has(j[0], j[1], j[2], x, y)
}

// in is what Spans answers of the triangle in r.
func (j job) in(r api.Rect) []api.Span {
	return Spans(j[0], j[1], j[2], r)
}

// String tells where the corners lie.
func (j job) String() string {
	return fmt.Sprintf("%d %d, %d %d, %d %d", j[0].X, j[0].Y, j[1].X, j[1].Y, j[2].X, j[2].Y)
}

// moved is the triangle, so many units further right and up.
func (j job) moved(x, y int) job {
	for i := range j {
		j[i].X, j[i].Y = j[i].X+x, j[i].Y+y
	}
	return j
}

// orders is the triangle with each corner first, both ways around: the first three go as it does.
func (j job) orders() []job {
	a, b, c := j[0], j[1], j[2]
	return []job{{a, b, c}, {b, c, a}, {c, a, b}, {a, c, b}, {c, b, a}, {b, a, c}}
}

// floorDiv is n divided by d, which is 1 or more, rounded down.
func floorDiv(n, d int) int {
	rest := (n%d + d) % d
	return (n - rest) / d
}

// chance is a row of numbers that look like chance and are the same at each run.
type chance uint64

// from is the next number from least to greatest.
func (c *chance) from(least, greatest int) int {
	*c ^= *c << 13
	*c ^= *c >> 7
	*c ^= *c << 17
	return least + int(*c>>1)%(greatest-least+1)
}

// corner is a place at most so far from the middle, by X and by Y.
func (c *chance) corner(far int) api.Win {
	return api.Win{X: c.from(-far, far), Y: c.from(-far, far)}
}

// shapes is how many shapes of triangles there are to choose from.
const shapes = 12

// job is a triangle at most so far from the middle, of that shape.
func (c *chance) job(far, shape int) job {
	j := job{c.corner(far), c.corner(far), c.corner(far)}
	first, second := c.from(0, 2), c.from(0, 2)
	switch shape {
	case 0: // a level side
		j[first].Y = j[(first+1)%3].Y
	case 1: // an upright side
		j[first].X = j[(first+1)%3].X
	case 2: // both
		j[first].Y, j[second].X = j[(first+1)%3].Y, j[(second+1)%3].X
	case 3: // a corner in a pixel's middle
		j[first].X, j[first].Y = j[first].X/256*256+128, j[first].Y/256*256+128
	case 4: // all in pixels' middles
		for i := range j {
			j[i].X, j[i].Y = j[i].X/256*256+128, j[i].Y/256*256+128
		}
	case 5: // all in middles, at edges and at corners of pixels
		for i := range j {
			j[i].X, j[i].Y = j[i].X/128*128, j[i].Y/128*128
		}
	case 6: // the same, but a unit beside
		for i := range j {
			j[i].X, j[i].Y = j[i].X/128*128+c.from(-1, 1), j[i].Y/128*128+c.from(-1, 1)
		}
	case 7: // flat
		for i := range j {
			j[i].Y = j[0].Y + c.from(-200, 200)
		}
	case 8: // steep
		for i := range j {
			j[i].X = j[0].X + c.from(-200, 200)
		}
	case 9: // slim: the third corner is near the way from the first to the second
		part := c.from(0, 64)
		j[2].X = j[0].X + (j[1].X-j[0].X)/64*part + c.from(-2, 2)
		j[2].Y = j[0].Y + (j[1].Y-j[0].Y)/64*part + c.from(-2, 2)
	case 10: // a side on which many middles lie
		way, times := compass[c.from(0, len(compass)-1)], c.from(1, far/1536+1)
		j[0].X, j[0].Y = j[0].X/256*256+128, j[0].Y/256*256+128
		j[1].X, j[1].Y = j[0].X+256*times*way[0], j[0].Y+256*times*way[1]
	}
	for i := range j {
		j[i].X, j[i].Y = max(-place, min(j[i].X, place)), max(-place, min(j[i].Y, place))
	}
	return j
}

// any is a triangle at most so far from the middle, of any shape.
func (c *chance) any(far int) job {
	return c.job(far, c.from(0, shapes-1))
}

// rect is one whose numbers are no further from x and y than far.
func (c *chance) rect(x, y, far int) api.Rect {
	x0, y0 := c.from(-far, far-1), c.from(-far, far-1)
	return api.Rect{X0: x + x0, Y0: y + y0, X1: x + c.from(x0+1, far), Y1: y + c.from(y0+1, far)}
}

// holding is a rectangle that has the pixel x, y, and others no further from it than far.
func (c *chance) holding(x, y, far int) api.Rect {
	return api.Rect{X0: x - c.from(0, far), Y0: y - c.from(0, far), X1: x + 1 + c.from(0, far), Y1: y + 1 + c.from(0, far)}
}

// slowArea is, by the chapter's words, twice the triangle's area, without an end.
func (j job) slowArea() *big.Int {
	n := func(a, b int) *big.Int { return new(big.Int).Sub(big.NewInt(int64(b)), big.NewInt(int64(a))) }
	plus := n(j[0].X, j[1].X)
	plus.Mul(plus, n(j[0].Y, j[2].Y))
	less := n(j[0].Y, j[1].Y)
	less.Mul(less, n(j[0].X, j[2].X))
	return plus.Sub(plus, less)
}

// counterclockwise is the triangle, its second and third corner changed about if it goes clockwise, and whether it has an area.
func (j job) counterclockwise() (job, bool) {
	sign := j.slowArea().Sign()
	if sign < 0 {
		return job{j[0], j[2], j[1]}, true
	}
	return j, sign > 0
}

// leaves tells, by the chapter's words, whether the side from a to b leaves the pixel x, y to the triangle at its left.
func leaves(a, b api.Win, x, y int) bool {
	middleX, middleY := 256*x+128, 256*y+128
	left := (middleY-a.Y)*(b.X-a.X) - (middleX-a.X)*(b.Y-a.Y)
	switch {
	case left != 0:
		return left > 0
	case b.Y != a.Y:
		return b.Y < a.Y
	}
	return b.X < a.X
}

// nudgedHas tells whether the triangle has the pixel x, y, by another reckoning than the chapter's words: a middle that is moved a
// little to the right, and much less down, is on no side any more, and within the triangle or not.
func (j job) nudgedHas(x, y int) bool {
	j, ok := j.counterclockwise()
	if !ok {
		return false
	}
	// All is told in parts of a unit, of which it has 2 to the power of 100.
	parts := func(n int, power uint) *big.Int { return new(big.Int).Lsh(big.NewInt(int64(n)), power) }
	middleX, middleY := parts(256*x+128, 100), parts(256*y+128, 100)
	middleX.Add(middleX, parts(1, 60))
	middleY.Sub(middleY, parts(1, 10))
	for i, a := range j {
		b := j[(i+1)%3]
		right := new(big.Int).Sub(middleX, parts(a.X, 100))
		up := new(big.Int).Sub(middleY, parts(a.Y, 100))
		up.Mul(up, big.NewInt(int64(b.X-a.X)))
		right.Mul(right, big.NewInt(int64(b.Y-a.Y)))
		if up.Cmp(right) <= 0 {
			return false
		}
	}
	return true
}

// about is the pixels of r that are no further from the triangle than two.
func (j job) about(r api.Rect) api.Rect {
	return api.Rect{
		X0: max(r.X0, floorDiv(min(j[0].X, j[1].X, j[2].X), 256)-2),
		Y0: max(r.Y0, floorDiv(min(j[0].Y, j[1].Y, j[2].Y), 256)-2),
		X1: min(r.X1, floorDiv(max(j[0].X, j[1].X, j[2].X), 256)+3),
		Y1: min(r.Y1, floorDiv(max(j[0].Y, j[1].Y, j[2].Y), 256)+3),
	}
}

// slow is the spans of the triangle in r: each pixel of r about it is asked.
func (j job) slow(r api.Rect) []api.Span {
	r = j.about(r)
	j, ok := j.counterclockwise()
	if !ok {
		return nil
	}
	var l []api.Span
	for y := r.Y0; y < r.Y1; y++ {
		begun := false
		for x := r.X0; x < r.X1; x++ {
			has := leaves(j[0], j[1], x, y) && leaves(j[1], j[2], x, y) && leaves(j[2], j[0], x, y)
			switch {
			case has && begun:
				l[len(l)-1].X1++
			case has:
				// What comes behind a gap would be a second span of the row: there is none.
				l = append(l, api.Span{Y: y, X0: x, X1: x + 1})
			}
			begun = has
		}
	}
	return l
}

// searched is the same of wide rectangles: each side takes a beginning or an end of the row away.
func (j job) searched(r api.Rect) []api.Span {
	j, ok := j.counterclockwise()
	r = j.about(r)
	var l []api.Span
	for y := r.Y0; ok && y < r.Y1; y++ {
		s := api.Span{Y: y, X0: r.X0, X1: r.X1}
		for i, a := range j {
			b := j[(i+1)%3]
			keeps := sort.Search(r.X1-r.X0, func(k int) bool { return leaves(a, b, r.X0+k, y) })
			drops := sort.Search(r.X1-r.X0, func(k int) bool { return !leaves(a, b, r.X0+k, y) })
			switch {
			case b.Y < a.Y:
				s.X0 = max(s.X0, r.X0+keeps)
			case b.Y > a.Y, drops == 0:
				s.X1 = min(s.X1, r.X0+drops)
			}
		}
		if s.X0 < s.X1 {
			l = append(l, s)
		}
	}
	return l
}

// inside is of these spans what is in r.
func inside(l []api.Span, r api.Rect) []api.Span {
	var some []api.Span
	for _, s := range l {
		s.X0, s.X1 = max(s.X0, r.X0), min(s.X1, r.X1)
		if r.Y0 <= s.Y && s.Y < r.Y1 && s.X0 < s.X1 {
			some = append(some, s)
		}
	}
	return some
}

// pixels is how many pixels spans have.
func pixels(l []api.Span) int {
	n := 0
	for _, s := range l {
		n += s.X1 - s.X0
	}
	return n
}

// spans is spans of which each is written as its Y, X0 and X1.
func spans(l [][3]int) []api.Span {
	var some []api.Span
	for _, s := range l {
		some = append(some, api.Span{Y: s[0], X0: s[1], X1: s[2]})
	}
	return some
}

// unlike tells where spans are other ones than they must be, of which there may be many.
func unlike(got, want []api.Span) string {
	i := 0
	for i < min(len(got), len(want)) && got[i] == want[i] {
		i++
	}
	return fmt.Sprintf("%d spans, not %d; from %d on %v, not %v", len(got), len(want), i, got[i:min(i+3, len(got))], want[i:min(i+3, len(want))])
}

// checkIn holds what Spans answers in r against these.
func checkIn(t *testing.T, j job, r api.Rect, want []api.Span) {
	t.Helper()
	if got := j.in(r); !slices.Equal(got, want) {
		t.Errorf("P20.1: Spans of %v in %v: %s", j, r, unlike(got, want))
	}
}

// checkHas holds what Has answers of the pixels of r against spans that rise by Y.
func checkHas(t *testing.T, j job, r api.Rect, want []api.Span) {
	t.Helper()
	for y := r.Y0; y < r.Y1; y++ {
		row := inside(want, api.Rect{X0: r.X0, Y0: y, X1: r.X1, Y1: y + 1})
		for x := r.X0; x < r.X1; x++ {
			has := len(row) > 0 && row[0].X0 <= x && x < row[0].X1
			if got := j.has(x, y); got != has {
				t.Errorf("P20.1: Has of %v and %d %d: %v", j, x, y, got)
				return
			}
		}
	}
}

// checkArea holds what Area answers against the area without an end.
func checkArea(t *testing.T, j job) {
	t.Helper()
	if got, want := j.area(), j.slowArea(); big.NewInt(int64(got)).Cmp(want) != 0 {
		t.Errorf("P20.1: Area of %v: %d, not %v", j, got, want)
	}
}

// checkWhole holds a triangle, as a whole and in some rectangles, against the pixels about it.
func checkWhole(t *testing.T, j job, some ...api.Rect) {
	t.Helper()
	checkArea(t, j)
	whole := j.slow(everywhere)
	for _, r := range append(some, everywhere) {
		checkIn(t, j, r, inside(whole, r))
	}
	checkHas(t, j, j.about(everywhere), whole)
}

func TestExample(t *testing.T) {
	j := at(0, 0, 512, 0, 0, 512)
	checkIn(t, j, everywhere, []api.Span{{X0: 0, X1: 1}})
	checkHas(t, j, here, []api.Span{{X0: 0, X1: 1}})
	if j.area() != 512*512 {
		t.Errorf("P20.1: Area of %v: %d", j, j.area())
	}
}

func TestAreaWritten(t *testing.T) {
	for _, c := range []struct {
		j    job
		want int
	}{
		{at(0, 0, 1, 0, 0, 1), 1}, {at(0, 0, 0, 1, 1, 0), -1}, {at(0, 0, 3, 0, 0, 2), 6}, {at(0, 0, 0, 2, 3, 0), -6},
		{at(10, 20, 40, 30, 20, 80), 1700}, {at(40, 30, 20, 80, 10, 20), 1700}, {at(20, 80, 10, 20, 40, 30), 1700}, {at(10, 20, 20, 80, 40, 30), -1700},
		{at(-10, -20, -40, -30, -20, -80), 1700}, {at(-10, 20, -40, 30, -20, 80), -1700}, {at(-5, 7, 6, -8, 9, 10), 243},
		// Of no area: on a line, two that are one, all three.
		{at(0, 0, 2, 4, 3, 6), 0}, {at(2, 4, 0, 0, 3, 6), 0}, {at(-7, 5, 7, 5, 0, 5), 0}, {at(5, -7, 5, 0, 5, 9), 0},
		{at(1, 2, 1, 2, 8, 9), 0}, {at(8, 9, 1, 2, 1, 2), 0}, {at(1, 2, 8, 9, 1, 2), 0}, {at(-4, 5, -4, 5, -4, 5), 0}, {job{}, 0},
		// The greatest, and the least beside 0, between corners as far as may be.
		{at(-place, -place, place, -place, place, place), 1 << 58}, {at(-place, -place, place, place, -place, place), 1 << 58},
		{at(-place, -place, place, place, place, -place), -1 << 58}, {at(place, place, -place, -place, -place, place), -1 << 58},
		{at(-place, place, place, place, place-1, -place), -1 << 58}, {at(-place, -place, place, -place, 77, place), 1 << 58},
		{at(-place, -place, place, place-1, place-1, place-2), -1}, {at(-place, -place, place-1, place-2, place, place-1), 1},
		{at(-place, -place, place, place-1, 1-place, 1-place), 1}, {at(-place, -place, place, place, place, place-1), -1 << 29},
		{at(-place, -place, place, place, 12345, 12345), 0}, {at(-place, place, 0, 0, place, -place), 0}, {at(place, place, -place, -place, place, place), 0},
	} {
		if got := c.j.area(); got != c.want {
			t.Errorf("P20.1: Area of %v: %d, not %d", c.j, got, c.want)
		}
		for i, o := range c.j.orders() {
			checkArea(t, o)
			if want := c.want * []int{1, -1}[i/3]; o.area() != want {
				t.Errorf("P20.2: Area of %v: %d, not %d", o, o.area(), want)
			}
		}
	}
}

func TestSpansWritten(t *testing.T) {
	for _, c := range []struct {
		j    job
		want [][3]int
	}{
		// Four by four pixels, parted from corner to corner: the side through middles goes down for the one right of it.
		{at(0, 0, 1024, 0, 1024, 1024), [][3]int{{0, 0, 4}, {1, 1, 4}, {2, 2, 4}, {3, 3, 4}}},
		{at(0, 0, 1024, 1024, 0, 1024), [][3]int{{1, 0, 1}, {2, 0, 2}, {3, 0, 3}}},
		{at(1024, 0, 0, 1024, 0, 0), [][3]int{{0, 0, 3}, {1, 0, 2}, {2, 0, 1}}},
		{at(1024, 0, 1024, 1024, 0, 1024), [][3]int{{0, 3, 4}, {1, 2, 4}, {2, 1, 4}, {3, 0, 4}}},
		// The same below 0.
		{at(-1024, -1024, 0, -1024, 0, 0), [][3]int{{-4, -4, 0}, {-3, -3, 0}, {-2, -2, 0}, {-1, -1, 0}}},
		{at(-1024, -1024, 0, 0, -1024, 0), [][3]int{{-3, -4, -3}, {-2, -4, -2}, {-1, -4, -1}}},
		// From middle to middle: the left side and the top are had, the right side and the bottom aren't.
		{at(128, 128, 640, 128, 128, 640), [][3]int{{1, 0, 1}}},
		{at(640, 640, 128, 640, 640, 128), [][3]int{{1, 1, 2}, {2, 0, 2}}},
		{at(128, 128, 640, 640, 128, 640), [][3]int{{1, 0, 1}, {2, 0, 2}}},
		{at(640, 128, 640, 640, 128, 128), [][3]int{{1, 1, 2}}},
		// A unit beside these middles.
		{at(127, 127, 641, 127, 127, 641), [][3]int{{0, 0, 2}, {1, 0, 1}}},
		{at(127, 127, 642, 127, 127, 642), [][3]int{{0, 0, 3}, {1, 0, 2}, {2, 0, 1}}},
		{at(127, 129, 641, 129, 127, 643), [][3]int{{1, 0, 2}, {2, 0, 1}}},
		// Slanted, across 0.
		{at(-700, -300, 900, 100, 100, 800), [][3]int{{-1, -2, 0}, {0, -2, 3}, {1, -1, 2}, {2, 0, 1}}},
		// Within a pixel, about its middle and beside it; between the middles of columns and of rows.
		{at(100, 100, 160, 110, 120, 150), [][3]int{{0, 0, 1}}}, {at(-156, -156, -96, -146, -136, -106), [][3]int{{-1, -1, 0}}},
		{at(130, 130, 250, 140, 200, 250), nil}, {at(0, 0, 255, 0, 255, 120), nil}, {at(129, 129, 383, 129, 383, 383), nil},
		{at(129, -9999, 383, -9999, 250, 9999), nil}, {at(-9999, 129, 9999, 129, 0, 383), nil},
		// Flat, and steep.
		{at(-2560, 100, 2560, 100, 0, 130), [][3]int{{0, -1, 1}}}, {at(-2560, 100, 2560, 100, 0, 129), nil},
		{at(-2560, 128, 0, 126, 2560, 128), [][3]int{{0, -10, 10}}}, {at(-2560, 128, 2560, 128, 0, 130), nil},
		{at(128, -300, 140, 0, 128, 700), [][3]int{{-1, 0, 1}, {0, 0, 1}, {1, 0, 1}, {2, 0, 1}}}, {at(128, -300, 128, 700, 116, 0), nil},
		// So slim that it has pixels of each second row alone.
		{at(34, 0, 94, 0, 2624, 5120), [][3]int{{0, 0, 1}, {2, 1, 2}, {4, 2, 3}, {6, 3, 4}, {8, 4, 5}, {10, 5, 6}, {12, 6, 7}, {14, 7, 8}, {16, 8, 9}, {18, 9, 10}}},
		// Of no area, through middles, too.
		{at(128, 128, 640, 640, 1152, 1152), nil}, {at(128, 128, 1152, 128, 640, 128), nil}, {at(128, 128, 128, 1152, 128, 640), nil},
		{at(128, 128, 128, 128, 640, 1152), nil}, {at(128, 128, 128, 128, 128, 128), nil}, {at(0, 0, 512, 512, 0, 0), nil}, {job{}, nil},
	} {
		for _, o := range c.j.orders() {
			checkIn(t, o, everywhere, spans(c.want))
			checkHas(t, o, here, spans(c.want))
			checkWhole(t, o)
		}
	}
}

func TestRectanglesWritten(t *testing.T) {
	// Rows 0 to 3 from pixel 0 on, each one shorter than the one below.
	j := at(0, 0, 1100, 0, 0, 1100)
	checkIn(t, j, everywhere, spans([][3]int{{0, 0, 4}, {1, 0, 3}, {2, 0, 2}, {3, 0, 1}}))
	for _, c := range []struct {
		r    api.Rect
		want [][3]int
	}{
		// The whole, as little as may be, and more.
		{api.Rect{X1: 4, Y1: 4}, [][3]int{{0, 0, 4}, {1, 0, 3}, {2, 0, 2}, {3, 0, 1}}},
		{api.Rect{X0: -1, Y0: -1, X1: 5, Y1: 5}, [][3]int{{0, 0, 4}, {1, 0, 3}, {2, 0, 2}, {3, 0, 1}}},
		// A part: a row, a column, without the first and the last ones, the middle.
		{api.Rect{X0: -9, Y0: 1, X1: 9, Y1: 2}, [][3]int{{1, 0, 3}}},
		{api.Rect{X0: 1, Y0: -9, X1: 2, Y1: 9}, [][3]int{{0, 1, 2}, {1, 1, 2}, {2, 1, 2}}},
		{api.Rect{X0: 1, Y0: 0, X1: 9, Y1: 9}, [][3]int{{0, 1, 4}, {1, 1, 3}, {2, 1, 2}}},
		{api.Rect{X0: -9, Y0: 1, X1: 2, Y1: 9}, [][3]int{{1, 0, 2}, {2, 0, 2}, {3, 0, 1}}},
		{api.Rect{X0: 1, Y0: 1, X1: 3, Y1: 3}, [][3]int{{1, 1, 3}, {2, 1, 2}}},
		// A single pixel that it has, and some that it hasn't.
		{api.Rect{X0: 0, Y0: 0, X1: 1, Y1: 1}, [][3]int{{0, 0, 1}}},
		{api.Rect{X0: 2, Y0: 1, X1: 3, Y1: 2}, [][3]int{{1, 2, 3}}},
		{api.Rect{X0: 3, Y0: 1, X1: 4, Y1: 2}, nil}, {api.Rect{X0: -1, Y0: 0, X1: 0, Y1: 1}, nil}, {api.Rect{X0: 0, Y0: -1, X1: 1, Y1: 0}, nil},
		// None of it: left, right, below, above, and beyond the third side.
		{api.Rect{X0: -9, Y0: -9, X1: 0, Y1: 9}, nil}, {api.Rect{X0: 4, Y0: -9, X1: 9, Y1: 9}, nil}, {api.Rect{X0: -9, Y0: -9, X1: 9, Y1: 0}, nil},
		{api.Rect{X0: -9, Y0: 4, X1: 9, Y1: 9}, nil}, {api.Rect{X0: 2, Y0: 2, X1: 4, Y1: 4}, nil},
		// Empty.
		{api.Rect{}, nil}, {api.Rect{X0: 1, Y0: 1, X1: 1, Y1: 3}, nil}, {api.Rect{X0: 1, Y0: 1, X1: 3, Y1: 1}, nil},
	} {
		for _, o := range j.orders() {
			checkIn(t, o, c.r, spans(c.want))
		}
	}
}

// compass is ways to go, counterclockwise from the right on.
var compass = [][2]int{{1, 0}, {3, 1}, {1, 1}, {1, 3}, {0, 1}, {-1, 3}, {-1, 1}, {-3, 1}, {-1, 0}, {-3, -1}, {-1, -1}, {-1, -3}, {0, -1}, {1, -3}, {1, -1}, {3, -1}}

// spots is pixels here and there, as far out as triangles about them may be.
var spots = [][2]int{{0, 0}, {3, 1}, {-1, 0}, {0, -1}, {-1, -1}, {-7, 5}, {outmost - 20, 20 - outmost}, {20 - outmost, outmost - 20}}

// TestMiddlesOnSides holds triangles of which a side goes just through a pixel's middle, or beside it.
func TestMiddlesOnSides(t *testing.T) {
	ways := append(slices.Clone(compass), [][2]int{{900, 1}, {1, 900}, {-1, 900}, {-900, 1}, {-900, -1}, {-1, -900}, {1, -900}, {900, -1}, {37, -41}, {-41, 37}}...)
	for _, spot := range spots {
		middleX, middleY := 256*spot[0]+128, 256*spot[1]+128
		for _, way := range ways {
			right, up := way[0], way[1]
			times := 1
			if max(right, -right, up, -up) <= 3 {
				// In a small triangle a unit would be much.
				times = 100
			}
			// As it goes, its triangle is at its left.
			j := at(middleX-3*times*right, middleY-3*times*up, middleX+times*right, middleY+times*up, middleX-2*times*up, middleY+2*times*right)
			for _, beside := range [][2]int{{0, 0}, {1, 0}, {-1, 0}, {0, 1}, {0, -1}, {1, 1}, {-1, 1}, {1, -1}, {-1, -1}} {
				// The middle comes out of the triangle, if that goes to its left.
				out := right*beside[1] - up*beside[0]
				want := out < 0 || out == 0 && (up < 0 || up == 0 && right < 0)
				moved := j.moved(beside[0], beside[1])
				if got := moved.has(spot[0], spot[1]); got != want {
					t.Errorf("P20.1: Has of %v and %d %d: %v", moved, spot[0], spot[1], got)
				}
				for _, o := range moved.orders() {
					checkWhole(t, o, api.Rect{X0: spot[0], Y0: spot[1], X1: spot[0] + 1, Y1: spot[1] + 1})
				}
			}
		}
	}
}

// TestSidesThroughManyMiddles holds the four sides of a square of middles, each of two triangles, and what lies a unit beside.
func TestSidesThroughManyMiddles(t *testing.T) {
	const first, last = -5*256 + 128, 4*256 + 128
	rows := func(y0, x0, y1, x1 int) []api.Span {
		var l []api.Span
		for y := y0; y <= y1; y++ {
			l = append(l, api.Span{Y: y, X0: x0, X1: x1 + 1})
		}
		return l
	}
	for _, c := range []struct {
		x0, y0, x1, y1 int
		want           []api.Span
	}{
		// To the right the lower side is level, to the left the upper one: had are the left and the upper one.
		{first, first, last, last, rows(-4, -5, 4, 3)},
		{first + 1, first, last, last, rows(-4, -4, 4, 3)}, {first - 1, first, last, last, rows(-4, -5, 4, 3)},
		{first, first + 1, last, last, rows(-4, -5, 4, 3)}, {first, first - 1, last, last, rows(-5, -5, 4, 3)},
		{first, first, last + 1, last, rows(-4, -5, 4, 4)}, {first, first, last - 1, last, rows(-4, -5, 4, 3)},
		{first, first, last, last + 1, rows(-4, -5, 4, 3)}, {first, first, last, last - 1, rows(-4, -5, 3, 3)},
	} {
		for _, halves := range [][2]job{
			{at(c.x0, c.y0, c.x1, c.y0, c.x1, c.y1), at(c.x0, c.y0, c.x1, c.y1, c.x0, c.y1)},
			{at(c.x0, c.y0, c.x1, c.y0, c.x0, c.y1), at(c.x1, c.y0, c.x1, c.y1, c.x0, c.y1)},
		} {
			checkOnce(t, c.want, halves[:], here)
			for _, h := range halves {
				checkWhole(t, h, here)
			}
		}
	}
}

// TestMiddlesAtCorners holds triangles that have a corner in a pixel's middle, with sides that go each way from there.
func TestMiddlesAtCorners(t *testing.T) {
	for _, spot := range spots {
		middleX, middleY := 256*spot[0]+128, 256*spot[1]+128
		pixel := api.Rect{X0: spot[0], Y0: spot[1], X1: spot[0] + 1, Y1: spot[1] + 1}
		for i, to := range compass {
			for turn := 1; turn < len(compass)/2; turn++ {
				k := (i + turn) % len(compass)
				from := compass[k]
				j := at(middleX, middleY, middleX+400*to[0], middleY+400*to[1], middleX+400*from[0], middleY+400*from[1])
				// Both sides leave the corner to it if the one goes away to the left or down, and the other one came from the right or above.
				want := i >= 8 && k < 8
				if got := j.has(spot[0], spot[1]); got != want {
					t.Errorf("P20.1: Has of %v and its corner's pixel %d %d: %v", j, spot[0], spot[1], got)
				}
				for _, beside := range [][2]int{{0, 0}, {1, 0}, {-1, 0}, {0, 1}, {0, -1}} {
					for _, o := range j.moved(beside[0], beside[1]).orders() {
						checkWhole(t, o, pixel)
					}
				}
			}
		}
	}
}

// TestNet holds all triangles between points of a net: in middles, a unit beside them, at edges and at corners.
func TestNet(t *testing.T) {
	net := []int{-128, -127, 0, 127, 128, 129, 384}
	some := []api.Rect{{X1: 1, Y1: 1}, {X0: 1, Y0: -1, X1: 2, Y1: 1}, {X0: -2, Y0: -2, X1: 1, Y1: 1}}
	var points []api.Win
	for _, x := range net {
		for _, y := range net {
			points = append(points, api.Win{X: x, Y: y})
		}
	}
	for _, a := range points {
		for _, b := range points {
			for _, c := range points {
				checkWhole(t, job{a, b, c}, some...)
			}
		}
		if t.Failed() {
			return
		}
	}
}

func TestManyTriangles(t *testing.T) {
	c := chance(20)
	for i := range 12000 {
		far := []int{150, 600, 3000, 12000}[c.from(0, 3)]
		if i%400 == 0 {
			far = 100000
		}
		j := c.job(far, i%shapes)
		x, y := floorDiv(j[0].X+j[1].X, 512), floorDiv(j[0].Y+j[2].Y, 512)
		checkWhole(t, j, c.rect(x, y, 2), c.rect(x, y, 6), c.rect(x, y, 40), api.Rect{X0: x, Y0: y, X1: x + 1, Y1: y + 1}, here)
		if t.Failed() {
			return
		}
	}
}

// TestNudged holds triangles of all sizes, with pixels about their sides and corners, against moved middles and numbers without an end.
func TestNudged(t *testing.T) {
	c := chance(21)
	has := 0
	for i := range 3000 {
		j := c.job([]int{300, 3000, 1 << 20, place}[c.from(0, 3)], i%shapes)
		for k, a := range j {
			b := j[(k+1)%3]
			part := c.from(0, 16)
			x, y := floorDiv(a.X+(b.X-a.X)/16*part, 256), floorDiv(a.Y+(b.Y-a.Y)/16*part, 256)
			r := api.Rect{X0: x - 1, Y0: y - 1, X1: x + 2, Y1: y + 2}
			var want []api.Span
			for y := r.Y0; y < r.Y1; y++ {
				for x := r.X0; x < r.X1; x++ {
					if j.nudgedHas(x, y) {
						want = append(want, api.Span{Y: y, X0: x, X1: x + 1})
						has++
					}
				}
			}
			want = joined(want)
			checkIn(t, j, r, want)
			checkHas(t, j, r, want)
		}
		if t.Failed() {
			return
		}
	}
	if has < 10000 {
		t.Errorf("just %d pixels were had", has)
	}
}

// joined is spans that rise by Y and by X, those that touch made one.
func joined(l []api.Span) []api.Span {
	var some []api.Span
	for _, s := range l {
		if last := len(some) - 1; last >= 0 && some[last].Y == s.Y && some[last].X1 == s.X0 {
			some[last].X1 = s.X1
		} else {
			some = append(some, s)
		}
	}
	return some
}

// checkOnce tells of a pixel that isn't in just one of the triangles, where it is one of these spans, or is in any where it is not.
func checkOnce(t *testing.T, want []api.Span, parts []job, r api.Rect) {
	t.Helper()
	var l []api.Span
	for _, j := range parts {
		l = append(l, j.in(r)...)
	}
	slices.SortFunc(l, func(a, b api.Span) int {
		if a.Y != b.Y {
			return a.Y - b.Y
		}
		return a.X0 - b.X0
	})
	for i := range len(l) - 1 {
		if l[i].Y == l[i+1].Y && l[i+1].X0 < l[i].X1 {
			t.Errorf("P20.2: of the triangles %v two have pixels of %v and %v", parts, l[i], l[i+1])
			return
		}
	}
	if got := joined(l); !slices.Equal(got, want) {
		t.Errorf("P20.2: the triangles %v in %v: %s", parts, r, unlike(got, want))
	}
}

// great is a triangle with corners as far as may be, or about there.
func (c *chance) great() job {
	ends := []int{-place, 1 - place, 128 - place, place - 128, place - 1, place, -128, 0, 1, 128}
	j := c.any(place)
	for i := range j {
		if c.from(0, 2) > 0 {
			j[i].X = ends[c.from(0, len(ends)-1)]
		}
		if c.from(0, 2) > 0 {
			j[i].Y = ends[c.from(0, len(ends)-1)]
		}
	}
	return j
}

// near is a pixel about one of the triangle's corners or sides, or within it.
func (c *chance) near(j job) (int, int) {
	a, b, end := j[c.from(0, 2)], j[c.from(0, 2)], j[c.from(0, 2)]
	part := c.from(0, 1000)
	x, y := a.X+(b.X-a.X)*part/1000, a.Y+(b.Y-a.Y)*part/1000
	if c.from(0, 1) == 0 {
		x, y = x+(end.X-x)*part/1000, y+(end.Y-y)*part/1000
	}
	return floorDiv(x, 256), floorDiv(y, 256)
}

// TestGreatTriangles holds triangles as far as may be in rectangles that have few of their pixels.
func TestGreatTriangles(t *testing.T) {
	c := chance(22)
	some := 0
	for range 6000 {
		j := c.great()
		checkArea(t, j)
		x, y := c.near(j)
		for _, r := range []api.Rect{c.rect(x, y, 3), c.rect(x, y, 12), {X0: x, Y0: y, X1: x + 1, Y1: y + 1}} {
			want := j.slow(r)
			some += min(1, len(want))
			checkIn(t, j, r, want)
			checkHas(t, j, r, want)
		}
		// Whole rows and columns of it.
		for _, r := range []api.Rect{{X0: -border, Y0: y, X1: border, Y1: y + 9}, {X0: x, Y0: y - 9, X1: border, Y1: y}, {X0: -border, Y0: y - 1, X1: x, Y1: y + 1}} {
			checkIn(t, j, r, j.searched(r))
		}
		if t.Failed() {
			return
		}
	}
	if some < 4000 {
		t.Errorf("just %d rectangles had pixels", some)
	}
}

// TestGreatWritten holds triangles as far as may be, written out.
func TestGreatWritten(t *testing.T) {
	edge := outmost - 1
	for _, c := range []struct {
		j    job
		r    api.Rect
		want [][3]int
	}{
		// The greatest: about its corners, along its long side, and whole rows.
		{at(-place, -place, place, -place, place, place), api.Rect{X0: -border, Y0: -border, X1: border, Y1: 2 - outmost},
			[][3]int{{-outmost, -outmost, outmost}, {1 - outmost, 1 - outmost, outmost}}},
		{at(-place, -place, place, -place, place, place), api.Rect{X0: -border, Y0: edge - 1, X1: border, Y1: border},
			[][3]int{{edge - 1, edge - 1, outmost}, {edge, edge, outmost}}},
		{at(-place, -place, place, -place, place, place), api.Rect{X0: -2, Y0: -2, X1: 2, Y1: 2}, [][3]int{{-2, -2, 2}, {-1, -1, 2}, {0, 0, 2}, {1, 1, 2}}},
		{at(-place, -place, place, place, -place, place), api.Rect{X0: -2, Y0: -2, X1: 2, Y1: 2}, [][3]int{{-1, -2, -1}, {0, -2, 0}, {1, -2, 1}}},
		{at(place, -place, -place, place, -place, -place), api.Rect{X0: -2, Y0: -2, X1: 2, Y1: 2}, [][3]int{{-2, -2, 1}, {-1, -2, 0}, {0, -2, -1}}},
		{at(place, -place, place, place, -place, place), api.Rect{X0: -2, Y0: -2, X1: 2, Y1: 2}, [][3]int{{-2, 1, 2}, {-1, 0, 2}, {0, -1, 2}, {1, -2, 2}}},
		{at(place, -place, place, place, -place, place), api.Rect{X0: 7, Y0: edge, X1: border, Y1: border}, [][3]int{{edge, 7, outmost}}},
		// A corner a unit aside: the middles on the long side aren't on it any more.
		{at(-place, -place, place, -place, place, place-1), api.Rect{X0: -2, Y0: -2, X1: 2, Y1: 2}, [][3]int{{-2, -1, 2}, {-1, 0, 2}, {0, 1, 2}}},
		{at(-place, -place, place, place-1, -place, place), api.Rect{X0: -2, Y0: -2, X1: 2, Y1: 2}, [][3]int{{-2, -2, -1}, {-1, -2, 0}, {0, -2, 1}, {1, -2, 2}}},
		// As long as may be, and so slim that it has few pixels, or none.
		{at(-place, -place, place, place, place, place-1), api.Rect{X0: -2, Y0: -2, X1: 2, Y1: 2}, [][3]int{{-2, -2, -1}, {-1, -1, 0}, {0, 0, 1}, {1, 1, 2}}},
		{at(-place, -place, place, place, place-1, place), api.Rect{X0: -2, Y0: -2, X1: 2, Y1: 2}, nil},
		{at(-place, 128, place, 128, 0, 127), everywhere, [][3]int{{0, -outmost, outmost}}}, {at(-place, 128, place, 128, 0, 129), everywhere, nil},
		{at(-place, 129, place, 129, 0, 383), everywhere, nil}, {at(129, -place, 383, -place, 250, place), everywhere, nil},
		{at(-place, -place, place, place-1, place-1, place-2), everywhere, nil}, {at(-place, -place, place-1, place-2, place, place-1), everywhere, nil},
		{at(-place, -place, place, place, 0, 0), everywhere, nil}, {at(-place, place, place, -place, 128, -128), everywhere, nil},
		{at(-place, 0, place, 0, 0, 129), everywhere, [][3]int{{0, -8128, 8128}}}, {at(-place, 0, place, 0, 0, 128), everywhere, nil},
		// At the bounds' corners.
		{at(place, place, place-256, place, place, place-256), everywhere, [][3]int{{edge, edge, outmost}}},
		{at(place, place, place-255, place, place, place-256), everywhere, nil},
		{at(-place, -place, 256-place, -place, -place, 256-place), everywhere, nil},
		{at(-place, -place, 257-place, -place, -place, 256-place), everywhere, [][3]int{{-outmost, -outmost, 1 - outmost}}},
	} {
		for _, o := range c.j.orders() {
			checkIn(t, o, c.r, spans(c.want))
			if c.r != everywhere && !slices.Equal(o.searched(c.r), spans(c.want)) {
				t.Errorf("P20.1: of %v in %v the chapter asks for %v", o, c.r, o.searched(c.r))
			}
		}
	}
}

// ways is two ways, as long as may be, that go almost the same way: the first one's X times the second one's Y is by 1 more than its Y
// times the second one's X.
func (c *chance) ways() (api.Point, api.Point) {
	first, second := api.Point{X: 1}, api.Point{Y: 1}
	for {
		// Whatever is added of the one to the other one, that difference stays.
		times := c.from(1, 40)
		longer := api.Point{X: first.X + times*second.X, Y: first.Y + times*second.Y}
		if max(longer.X, longer.Y) > place-2560 {
			break
		}
		first = longer
		times = c.from(1, 40)
		longer = api.Point{X: second.X + times*first.X, Y: second.Y + times*first.Y}
		if max(longer.X, longer.Y) > place-2560 {
			break
		}
		second = longer
	}
	for range c.from(0, 3) {
		first, second = api.Point{X: -first.Y, Y: first.X}, api.Point{X: -second.Y, Y: second.X}
	}
	return first, second
}

// TestBarelyBeside holds long sides that a middle is on, or is beside by as little as may be.
func TestBarelyBeside(t *testing.T) {
	c := chance(33)
	for range 3000 {
		first, second := c.ways()
		x, y := c.from(-9, 9), c.from(-9, 9)
		middle := api.Win{X: 256*x + 128, Y: 256*y + 128}
		for i, from := range []api.Point{first, first, second} {
			// From the one end to the middle, and on to the other one, it turns to the left, goes straight on, or turns to the right.
			to := []api.Point{second, first, first}[i]
			a, b := api.Win{X: middle.X - from.X, Y: middle.Y - from.Y}, api.Win{X: middle.X + to.X, Y: middle.Y + to.Y}
			want := i == 2 || i == 1 && (to.Y < 0 || to.Y == 0 && to.X < 0)
			// A corner far away, at the left of it.
			j := job{a, b, {X: middle.X - to.Y/2, Y: middle.Y + to.X/2}}
			if j.nudgedHas(x, y) != want {
				t.Fatalf("P20.1: of %v and %d %d the chapter asks for another", j, x, y)
			}
			for _, o := range j.orders() {
				if got := o.has(x, y); got != want {
					t.Errorf("P20.1: Has of %v and %d %d: %v", o, x, y, got)
				}
				if got := o.in(api.Rect{X0: x, Y0: y, X1: x + 1, Y1: y + 1}); len(got) == 1 != want {
					t.Errorf("P20.1: Spans of %v at %d %d: %v", o, x, y, got)
				}
			}
		}
		if t.Failed() {
			return
		}
	}
}

// TestGreatestHalves holds the greatest square, parted from corner to corner: each pixel is in just one half, of some 2 millions of rows.
func TestGreatestHalves(t *testing.T) {
	for _, halves := range [][2]job{
		{at(-place, -place, place, -place, place, place), at(-place, -place, place, place, -place, place)},
		{at(-place, place, place, -place, place, place), at(-place, -place, place, -place, -place, place)},
	} {
		var sum [2 * outmost]int
		n := 0
		for _, h := range halves {
			l := h.in(everywhere)
			n += pixels(l)
			for _, s := range l {
				if s.X0 != -outmost && s.X1 != outmost {
					t.Fatalf("P20.1: Spans of %v: %v", h, s)
				}
				sum[s.Y+outmost] += s.X1 - s.X0
			}
		}
		if n != 4*outmost*outmost {
			t.Errorf("P20.2: the halves %v have %d pixels, not %d", halves, n, 4*outmost*outmost)
		}
		for i, width := range sum {
			if width != 2*outmost {
				t.Fatalf("P20.2: of the row %d the halves %v have %d pixels", i-outmost, halves, width)
			}
		}
	}
}

// TestPixelsAtTheBounds holds that no triangle has a pixel beyond the place of its corners, and none runs over there.
func TestPixelsAtTheBounds(t *testing.T) {
	c := chance(23)
	ends := []int{-border, 1 - border, -outmost - 1, outmost, border - 1, border}
	inner := []int{-border, -outmost - 1, -outmost, -77, 0, 77, outmost - 1, outmost, border}
	for range 2000 {
		j := c.great()
		for _, out := range ends {
			for _, in := range inner {
				if j.has(out, in) || j.has(in, out) {
					t.Fatalf("P20.1: Has of %v and %d %d", j, out, in)
				}
			}
		}
		for _, r := range []api.Rect{
			{X0: -border, Y0: -border, X1: 1 - border, Y1: 1 - border}, {X0: border - 1, Y0: border - 1, X1: border, Y1: border},
			{X0: border - 1, Y0: -border, X1: border, Y1: border}, {X0: -border, Y0: -border, X1: border, Y1: -outmost},
			{X0: -border, Y0: outmost, X1: border, Y1: border}, {X0: -border, Y0: -border, X1: -outmost, Y1: border},
			{X0: outmost, Y0: -border, X1: border, Y1: border},
		} {
			checkIn(t, j, r, nil)
		}
	}
}

// TestRectanglesAtTheBounds holds rectangles of which numbers are at their bounds.
func TestRectanglesAtTheBounds(t *testing.T) {
	c := chance(24)
	for range 1000 {
		j := c.any([]int{600, 4000}[c.from(0, 1)])
		x, y := c.near(j)
		for _, r := range []api.Rect{
			{X0: -border, Y0: -border, X1: x, Y1: y}, {X0: x, Y0: y, X1: border, Y1: border}, {X0: x, Y0: -border, X1: border, Y1: y},
			{X0: -border, Y0: y, X1: x, Y1: border}, {X0: -border, Y0: y, X1: border, Y1: y + 1}, {X0: x, Y0: -border, X1: x + 1, Y1: border},
		} {
			checkIn(t, j, r, j.slow(r))
		}
	}
}

// wrongRects is rectangles that may not be, that triangles about the middle would have pixels in, were it not for that.
func wrongRects() []api.Rect {
	l := []api.Rect{{}, {X0: 20, Y0: 20, X1: -20, Y1: -20}, {X0: 1, Y0: -20, X1: 1, Y1: 20}, {X0: -20, Y0: 1, X1: 20, Y1: 1},
		{X0: math.MinInt, Y0: math.MinInt, X1: math.MaxInt, Y1: math.MaxInt}, {X0: math.MaxInt, Y0: math.MaxInt, X1: math.MinInt, Y1: math.MinInt},
		{X0: -border - 1, Y0: -border - 1, X1: border + 1, Y1: border + 1}}
	for i := range 4 {
		for _, n := range []int{20, 21, 40, border, border + 1, math.MaxInt - 63, math.MaxInt} {
			// Either end by either way is beyond the other one,
			if i > 1 {
				n = -n
			}
			l = append(l, about(i, n))
		}
		for _, n := range []int{border + 1, border + 64, 1 << 32, 1 << 62, math.MaxInt - 63, math.MaxInt} {
			// and too far out.
			if i < 2 {
				n = -n
			}
			l = append(l, about(i, n))
		}
	}
	return l
}

// about is a rectangle about the middle, of which the i-th number is n.
func about(i, n int) api.Rect {
	r := here
	*[4]*int{&r.X0, &r.Y0, &r.X1, &r.Y1}[i] = n
	return r
}

func TestWrongRectangles(t *testing.T) {
	c := chance(25)
	l := []job{at(-900, -900, 900, -700, 100, 800), at(-place, -place, place, -place, 0, place), at(0, 0, 512, 0, 0, 512), job{}}
	for range 300 {
		l = append(l, c.any(3000), c.great())
	}
	for _, j := range l {
		for _, r := range wrongRects() {
			checkIn(t, j, r, nil)
		}
	}
	// A number less, and it may be.
	for i, n := range []int{-border, -border, border, border} {
		checkIn(t, l[0], about(i, n), l[0].slow(everywhere))
	}
}

// TestDepthsAndColors holds that the corners' depths and colors, which may be any, change nothing.
func TestDepthsAndColors(t *testing.T) {
	c := chance(26)
	any := []int{math.MinInt, -1, 0, 1, 255, 256, 1 << 24, 1 << 62, math.MaxInt}
	for range 2000 {
		j := c.any(2000)
		painted := j
		for i := range painted {
			painted[i].Z = any[c.from(0, len(any)-1)]
			for k := range painted[i].C {
				painted[i].C[k] = any[c.from(0, len(any)-1)]
			}
		}
		x, y := c.near(j)
		if got, want := painted.in(everywhere), j.in(everywhere); !slices.Equal(got, want) {
			t.Fatalf("P20.1: Spans of %v of other depths and colors: %s", j, unlike(got, want))
		}
		if painted.area() != j.area() || painted.has(x, y) != j.has(x, y) {
			t.Fatalf("P20.1: Area or Has of %v of other depths and colors", j)
		}
	}
}

// TestOrders holds triangles with each corner first, both ways around.
func TestOrders(t *testing.T) {
	c := chance(27)
	some := 0
	for i := range 6000 {
		j := c.job([]int{300, 3000, place}[i%3], c.from(0, shapes-1))
		x, y := c.near(j)
		r := c.holding(x, y, 12)
		area, want := j.area(), j.in(r)
		some += min(1, len(want))
		for i, o := range j.orders() {
			if got := o.area(); got != area*[]int{1, -1}[i/3] {
				t.Fatalf("P20.2: Area of %v: %d; of %v: %d", j, area, o, got)
			}
			if got := o.in(r); !slices.Equal(got, want) {
				t.Fatalf("P20.2: Spans of %v and %v in %v: %v and %v", j, o, r, want, got)
			}
			if o.has(x, y) != j.has(x, y) {
				t.Fatalf("P20.2: Has of %v and %v and %d %d", j, o, x, y)
			}
		}
	}
	if some < 3000 {
		t.Errorf("just %d rectangles had pixels", some)
	}
}

// TestCommonSides holds triangles that lie on both sides of a common one: none of their pixels is the other's; and of the middles
// that are on the side, but not at its ends, each is one's.
func TestCommonSides(t *testing.T) {
	c := chance(28)
	some, on := 0, 0
	for i := range 8000 {
		j := c.job([]int{300, 3000, place}[i%3], c.from(0, shapes-1))
		a, b := j[0], j[1]
		other := job{b, a, c.corner([]int{300, 3000, place}[i%3])}
		if c.from(0, 2) == 0 {
			// Both have the same shape: seen from the side's middle the one is as far as the other.
			other[2] = api.Win{X: a.X + b.X - j[2].X, Y: a.Y + b.Y - j[2].Y}
			other[2].X, other[2].Y = max(-place, min(other[2].X, place)), max(-place, min(other[2].Y, place))
		}
		if j.slowArea().Sign()*other.slowArea().Sign() != 1 {
			continue
		}
		x, y := c.near(job{a, b, a})
		r := c.holding(x, y, 9)
		whole := append(j.in(r), other.in(r)...)
		slices.SortFunc(whole, func(s, u api.Span) int { return (s.Y-u.Y)<<24 + s.X0 - u.X0 })
		checkOnce(t, joined(whole), []job{j, other}, r)
		some += min(1, len(whole))
		for y := r.Y0; y < r.Y1; y++ {
			for x := r.X0; x < r.X1; x++ {
				first, second := j.has(x, y), other.has(x, y)
				if first && second {
					t.Fatalf("P20.2: %v and %v both have %d %d", j, other, x, y)
				}
				if onSide(a, b, 256*x+128, 256*y+128) {
					on++
					if !first && !second {
						t.Fatalf("P20.2: neither %v nor %v has %d %d", j, other, x, y)
					}
				}
			}
		}
		if t.Failed() {
			return
		}
	}
	if some < 2000 || on < 500 {
		t.Errorf("just %d rectangles had pixels, %d middles were on sides", some, on)
	}
}

// onSide tells whether x, y is on the way from a to b, and neither a nor b.
func onSide(a, b api.Win, x, y int) bool {
	j := job{a, b, {X: x, Y: y}}
	inX, inY := min(a.X, b.X) <= x && x <= max(a.X, b.X), min(a.Y, b.Y) <= y && y <= max(a.Y, b.Y)
	return inX && inY && j.slowArea().Sign() == 0 && (x != a.X || y != a.Y) && (x != b.X || y != b.Y)
}

// within is a point in the triangle: at a corner, on a side, in a pixel's middle, or anywhere.
func (c *chance) within(j job) (api.Win, bool) {
	var p api.Win
	switch c.from(0, 4) {
	case 0:
		p = j[c.from(0, 2)]
	case 1:
		// On a side, if its length in each way can be parted so.
		i, part := c.from(0, 2), c.from(0, 4)
		a, b := j[i], j[(i+1)%3]
		p = api.Win{X: a.X + (b.X-a.X)/4*part, Y: a.Y + (b.Y-a.Y)/4*part}
	case 2:
		x, y := c.near(j)
		p = api.Win{X: 256*x + 128, Y: 256*y + 128}
	case 3:
		p = api.Win{X: (j[0].X + j[1].X + j[2].X) / 3, Y: (j[0].Y + j[1].Y + j[2].Y) / 3}
	default:
		p = api.Win{X: c.from(min(j[0].X, j[1].X, j[2].X), max(j[0].X, j[1].X, j[2].X)), Y: c.from(min(j[0].Y, j[1].Y, j[2].Y), max(j[0].Y, j[1].Y, j[2].Y))}
	}
	sign := j.slowArea().Sign()
	if sign == 0 {
		return p, false
	}
	for _, part := range fan(j[:], p) {
		if part.slowArea().Sign()*sign < 0 {
			return p, false
		}
	}
	return p, true
}

// fan is the triangles around p that end at the sides between these corners.
func fan(corners []api.Win, p api.Win) []job {
	var l []job
	for i, a := range corners {
		l = append(l, job{a, corners[(i+1)%len(corners)], p})
	}
	return l
}

// TestCutInThree holds triangles, cut into three at a point in them, against the whole.
func TestCutInThree(t *testing.T) {
	c := chance(29)
	some := 0
	for i := range 12000 {
		j := c.job([]int{300, 3000, place}[i%3], c.from(0, shapes-1))
		p, ok := c.within(j)
		if !ok {
			continue
		}
		parts := fan(j[:], p)
		if c.from(0, 1) == 0 {
			// Whichever corner comes first, and whichever way they go.
			for i := range parts {
				parts[i] = parts[i].orders()[c.from(0, 5)]
			}
		}
		x, y := floorDiv(p.X, 256), floorDiv(p.Y, 256)
		r := c.holding(x, y, 12)
		want := j.in(r)
		checkOnce(t, want, parts, r)
		if i%3 < 2 {
			checkOnce(t, j.in(everywhere), parts, everywhere)
		}
		some += min(1, len(want))
		if t.Failed() {
			return
		}
	}
	if some < 4000 {
		t.Errorf("just %d rectangles had pixels", some)
	}
}

// TestFans holds triangles around a point, in a pixel's middle too, as its corners go all around it.
func TestFans(t *testing.T) {
	for _, p := range []api.Win{{X: 128, Y: 128}, {}, {X: -128, Y: 640}, {X: 127, Y: 129}, {X: place/2 + 128, Y: 128 - place/2}} {
		for _, far := range []int{400, 1000, 8000} {
			var corners []api.Win
			for _, way := range compass {
				corners = append(corners, api.Win{X: p.X + far*way[0], Y: p.Y + far*way[1]})
			}
			x, y := floorDiv(p.X, 256), floorDiv(p.Y, 256)
			r := api.Rect{X0: x - 1, Y0: y - 1, X1: x + 2, Y1: y + 2}
			// All of these are in it, and so each is in one of its triangles.
			checkOnce(t, spans([][3]int{{y - 1, x - 1, x + 2}, {y, x - 1, x + 2}, {y + 1, x - 1, x + 2}}), fan(corners, p), r)
		}
	}
}

// TestMoved holds triangles that are moved by whole pixels, up to the bounds, against those that are not.
func TestMoved(t *testing.T) {
	c := chance(30)
	some := 0
	for range 4000 {
		j := c.any([]int{300, 3000}[c.from(0, 1)])
		x, y := c.from(12-outmost, outmost-12), c.from(12-outmost, outmost-12)
		if c.from(0, 1) == 0 {
			x, y = c.from(-2, 2), c.from(-2, 2)
		}
		away := j.moved(256*x, 256*y)
		want := j.in(everywhere)
		atX, atY := c.near(j)
		if j.has(atX, atY) != away.has(atX+x, atY+y) {
			t.Fatalf("P20.2: Has of %v and %d %d, moved by %d %d", j, atX, atY, x, y)
		}
		for i := range want {
			want[i].Y, want[i].X0, want[i].X1 = want[i].Y+y, want[i].X0+x, want[i].X1+x
		}
		some += min(1, len(want))
		if got := away.in(everywhere); !slices.Equal(got, want) || away.area() != j.area() {
			t.Fatalf("P20.2: Spans of %v, moved by %d %d: %s", j, x, y, unlike(got, want))
		}
	}
	if some < 1500 {
		t.Errorf("just %d triangles had pixels", some)
	}
}

// TestGreaterRectangles holds what a rectangle shows against what a greater one shows there.
func TestGreaterRectangles(t *testing.T) {
	c := chance(31)
	for range 3000 {
		j := c.any([]int{3000, place}[c.from(0, 1)])
		x, y := c.near(j)
		greater := c.holding(x, y, 20)
		l := j.in(greater)
		for range 5 {
			lesser := api.Rect{X0: c.from(greater.X0, greater.X1-1), Y0: c.from(greater.Y0, greater.Y1-1)}
			lesser.X1, lesser.Y1 = c.from(lesser.X0+1, greater.X1), c.from(lesser.Y0+1, greater.Y1)
			checkIn(t, j, lesser, inside(l, lesser))
		}
	}
}

// TestNewMemory spoils an answer, and asks again.
func TestNewMemory(t *testing.T) {
	j := at(-900, -900, 900, -700, 100, 800)
	first := j.in(everywhere)
	want := slices.Clone(first)
	for i := range first[:cap(first)] {
		first[:cap(first)][i] = api.Span{Y: -1, X0: -1, X1: -1}
	}
	if again := j.in(everywhere); !slices.Equal(again, want) || len(want) == 0 {
		t.Errorf("P20.1: Spans of %v, once more: %s", j, unlike(again, want))
	}
}

// TestAnyRectangle asks for rectangles of numbers of all kinds: the calls must end, and not panic, and answer none of wrong ones.
func TestAnyRectangle(t *testing.T) {
	c := chance(32)
	any := []int{math.MinInt, math.MinInt + 1, -1 << 32, -border - 1, -border, -1, 0, 1, 2, border, border + 1, 1 << 32, 1 << 62, math.MaxInt - 1, math.MaxInt}
	for range 50000 {
		j := c.any([]int{600, place}[c.from(0, 1)])
		r := c.rect(0, 0, 9)
		for _, n := range []*int{&r.X0, &r.Y0, &r.X1, &r.Y1} {
			if c.from(0, 3) == 0 {
				*n = any[c.from(0, len(any)-1)]
			}
		}
		if r.Y0 == -border || r.Y1 == border {
			// Of so many rows some are enough.
			r.Y0, r.Y1 = max(r.Y0, -9), min(r.Y1, 9)
		}
		l := j.in(r)
		right := -border <= min(r.X0, r.Y0) && r.X0 < r.X1 && r.Y0 < r.Y1 && max(r.X1, r.Y1) <= border
		for i, s := range l {
			if !right || s.X0 < r.X0 || s.X0 >= s.X1 || s.X1 > r.X1 || s.Y < r.Y0 || s.Y >= r.Y1 || i > 0 && s.Y <= l[i-1].Y {
				t.Fatalf("P20.1: Spans of %v in %v: %v", j, r, s)
			}
		}
	}
}
