package rect

import (
	"math"
	"math/big"
	"slices"
	"testing"

	"rastrum/api"
)

const most = 1 << 22 // MaxPixel, written out

var (
	noughts = api.Rect{}
	all     = box(-most, -most, most, most)
)

// box is the rectangle of these four numbers.
func box(x0, y0, x1, y1 int) api.Rect {
	return api.Rect{X0: x0, Y0: y0, X1: x1, Y1: y1}
}

// changed is r, its i-th number (X0, Y0, X1, Y1) being n.
func changed(r api.Rect, i, n int) api.Rect {
	*[]*int{&r.X0, &r.Y0, &r.X1, &r.Y1}[i] = n
	return r
}

// moved is r, x further to the right, y further up.
func moved(r api.Rect, x, y int) api.Rect {
	return box(r.X0+x, r.Y0+y, r.X1+x, r.Y1+y)
}

// ends are numbers further out than any that may be, of which some look right where bits are lost or sums run over.
func ends() []int {
	return []int{math.MinInt, math.MinInt + 1, math.MaxInt, math.MaxInt - 1, math.MinInt + most, math.MaxInt - most,
		1 << 62, -1 << 62, 1<<62 + 1, 1 << 32, -1 << 32, 1<<32 + 1, 1 << 31, -1 << 31, 2*most + 1, -2*most - 1}
}

// edges are numbers at the bounds, beside them, and about nought.
func edges() []int {
	return []int{-most - 2, -most - 1, -most, 1 - most, -2, -1, 0, 1, 2, most - 1, most, most + 1, most + 2}
}

// goodRects are some that may be: of one pixel, of one row, of one column, and of many.
func goodRects() []api.Rect {
	return []api.Rect{
		box(0, 0, 1, 1), box(-1, -1, 0, 0), box(7, -9, 8, -8), box(0, 0, 5, 1), box(-7, 3, 2, 4), box(0, 0, 1, 5), box(3, -7, 4, 2),
		box(0, 0, 3, 3), box(-3, -5, 4, 2), box(-9, -8, -2, -3), box(10, 20, 31, 26), all,
		box(-most, -most, 1-most, 1-most), box(most-1, most-1, most, most), box(-most, 0, most, 1), box(-1, -most, 0, most),
		box(most-1, -most, most, 1-most), box(-most, most-1, 1-most, most), box(-most, -most, 0, 0), box(0, 0, most, most),
	}
}

// wrongRects are some that may not be.
func wrongRects() []api.Rect {
	l := []api.Rect{
		noughts, box(1, 1, 0, 0), box(3, 3, 0, 0), box(3, 0, 0, 3), box(0, 3, 3, 0), box(0, 0, 0, 3), box(0, 0, 3, 0), box(2, 2, 2, 2),
		box(1, 0, 0, 3), box(0, 1, 3, 0), box(most, most, -most, -most), box(most, -most, -most, most), box(-most, -most, -most, most),
		box(most+1, 0, most+2, 1), box(0, -most-2, 1, -most-1),
	}
	for _, r := range []api.Rect{box(0, 0, 3, 3), all} {
		for i := range 4 {
			for _, n := range append(ends(), -most-1, most+1) {
				l = append(l, changed(r, i, n))
			}
		}
	}
	for _, n := range append(ends(), most+1) {
		l = append(l, box(n, n, n, n), box(0, 0, n, n), box(n, n, 0, 0))
	}
	return append(l, box(math.MinInt, math.MinInt, math.MaxInt, math.MaxInt), box(-most-1, -most-1, most+1, most+1))
}

// mayBe is what Right must answer.
func mayBe(r api.Rect) bool {
	for _, n := range []int{r.X0, r.Y0, r.X1, r.Y1} {
		if n < -1<<22 || n > 1<<22 {
			return false
		}
	}
	return r.X0 < r.X1 && r.Y0 < r.Y1
}

// has is what Has must answer.
func has(r api.Rect, x, y int) bool {
	return mayBe(r) && x >= r.X0 && x < r.X1 && y >= r.Y0 && y < r.Y1
}

// chance is a row of numbers that look like chance and are the same at each run.
type chance uint64

// from is the next number from least to greatest.
func (c *chance) from(least, greatest int) int {
	*c ^= *c << 13
	*c ^= *c >> 7
	*c ^= *c << 17
	return least + int(*c>>1)%(greatest-least+1)
}

// rect is one that may be, no corner of which is further than far from nought.
func (c *chance) rect(far int) api.Rect {
	x, y := c.from(-far, far-1), c.from(-far, far-1)
	return box(x, y, c.from(x+1, far), c.from(y+1, far))
}

func TestRight(t *testing.T) {
	for _, r := range goodRects() {
		if !Right(r) {
			t.Errorf("P12.1: %v may not be", r)
		}
	}
	for _, r := range wrongRects() {
		if Right(r) {
			t.Errorf("P12.1: %v may be", r)
		}
	}
	// One number below another one, the same, and above, one way and the other way.
	for _, n := range []int{-most, 1 - most, -1, 0, 1, 77, most - 1, most} {
		for d := -2; d <= 2; d++ {
			want := d > 0 && n+d <= most
			if x, y := box(n, -5, n+d, 6), box(-5, n, 6, n+d); Right(x) != want || Right(y) != want {
				t.Errorf("P12.1: from %d to %d: may be: %v, %v; not %v", n, n+d, Right(x), Right(y), want)
			}
		}
	}
	l := append(edges(), math.MinInt, math.MaxInt)
	for _, x0 := range l {
		for _, y0 := range l {
			for _, x1 := range l {
				for _, y1 := range l {
					if r := box(x0, y0, x1, y1); Right(r) != mayBe(r) {
						t.Errorf("P12.1: Right(%v): %v", r, Right(r))
					}
				}
			}
		}
	}
}

func checkMake(t *testing.T, x, y, w, h int, want api.Rect, good bool) {
	t.Helper()
	if got, ok := Make(x, y, w, h); got != want || ok != good {
		t.Errorf("P12.1: Make(%d, %d, %d, %d): %v, %v; not %v, %v", x, y, w, h, got, ok, want, good)
	}
}

// slowWay tells where what begins at begin and is so long ends, and whether it may be, by numbers without an end.
func slowWay(begin, length int) (int, bool) {
	end := new(big.Int).Add(big.NewInt(int64(begin)), big.NewInt(int64(length)))
	ok := begin >= -most && length >= 1 && end.Cmp(big.NewInt(most)) <= 0
	return int(end.Int64()), ok
}

func TestMake(t *testing.T) {
	cases := []struct {
		x, y, w, h int
		want       api.Rect
	}{
		{0, 0, 1, 1, box(0, 0, 1, 1)}, {-1, -1, 1, 1, box(-1, -1, 0, 0)}, {3, 4, 5, 6, box(3, 4, 8, 10)},
		{-3, 4, 2, 1, box(-3, 4, -1, 5)}, {3, -4, 1, 9, box(3, -4, 4, 5)}, {-5, -7, 5, 7, box(-5, -7, 0, 0)},
		{-most, -most, 2 * most, 2 * most, all}, {-most, 0, 2 * most, 1, box(-most, 0, most, 1)}, {0, -most, 1, 2 * most, box(0, -most, 1, most)},
		{most - 1, most - 1, 1, 1, box(most-1, most-1, most, most)}, {-most, -most, 1, 1, box(-most, -most, 1-most, 1-most)},
		{0, 0, most, most, box(0, 0, most, most)}, {-1, 1, most + 1, most - 1, box(-1, 1, most, most)},
		{1 - most, 1 - most, 2*most - 1, 2*most - 1, box(1-most, 1-most, most, most)},
	}
	for _, c := range cases {
		checkMake(t, c.x, c.y, c.w, c.h, c.want, true)
		// No pixel is there to be had of a way that is no longer one, nor of one that begins or ends too far.
		for _, bad := range append(ends(), 0, -1, -2, -most, -2*most, 2*most+1, most-c.x+1) {
			checkMake(t, c.x, c.y, bad, c.h, noughts, false)
		}
		for _, bad := range append(ends(), 0, -1, -2, -most, -2*most, 2*most+1, most-c.y+1) {
			checkMake(t, c.x, c.y, c.w, bad, noughts, false)
			checkMake(t, c.x, c.y, bad, bad, noughts, false)
		}
		for _, bad := range append(ends(), -most-1, most, most+1) {
			checkMake(t, bad, c.y, c.w, c.h, noughts, false)
			checkMake(t, c.x, bad, c.w, c.h, noughts, false)
			checkMake(t, bad, bad, c.w, c.h, noughts, false)
		}
	}
}

// TestMakeAtAllEdges has all four numbers at the edges, and at the ends of int, each alone and together.
func TestMakeAtAllEdges(t *testing.T) {
	begins := append(edges(), math.MinInt, math.MinInt+1, math.MaxInt-1, math.MaxInt)
	lengths := []int{math.MinInt, math.MinInt + most, -2 * most, -most, -1, 0, 1, 2, most - 1, most, most + 1, 2*most - 1, 2 * most, 2*most + 1,
		math.MaxInt - most, math.MaxInt - 1, math.MaxInt}
	good := 0
	for _, x := range begins {
		for _, w := range lengths {
			x1, wide := slowWay(x, w)
			for _, y := range begins {
				for _, h := range lengths {
					y1, high := slowWay(y, h)
					if wide && high {
						good++
						checkMake(t, x, y, w, h, box(x, y, x1, y1), true)
						continue
					}
					checkMake(t, x, y, w, h, noughts, false)
				}
			}
		}
	}
	if good < 1000 {
		t.Errorf("of all edges just %d may be: too few to tell anything", good)
	}
}

func checkHas(t *testing.T, r api.Rect, x, y int, want bool) {
	t.Helper()
	if got := Has(r, x, y); got != want {
		t.Errorf("P12.1: Has(%v, %d, %d): %v", r, x, y, got)
	}
}

func TestHas(t *testing.T) {
	for _, r := range goodRects() {
		// Of each way the last one outside, the first and the last one inside, one in the middle, and the first one behind.
		for i, x := range [5]int{r.X0 - 1, r.X0, (r.X0 + r.X1) >> 1, r.X1 - 1, r.X1} {
			for k, y := range [5]int{r.Y0 - 1, r.Y0, (r.Y0 + r.Y1) >> 1, r.Y1 - 1, r.Y1} {
				checkHas(t, r, x, y, i%4 != 0 && k%4 != 0)
			}
		}
		for _, far := range append(ends(), r.X0-2, r.X1+1, -most-1, most) {
			checkHas(t, r, far, r.Y0, false)
		}
		for _, far := range append(ends(), r.Y0-2, r.Y1+1, -most-1, most) {
			checkHas(t, r, r.X0, far, false)
			checkHas(t, r, far, far, false)
		}
		for _, x := range append(edges(), math.MinInt, math.MaxInt) {
			for _, y := range append(edges(), math.MinInt, math.MaxInt) {
				checkHas(t, r, x, y, has(r, x, y))
			}
		}
	}
	// No X of this one's six pixels is a Y of theirs: whoever changes both about is seen.
	for x := -1; x <= 6; x++ {
		for y := -1; y <= 6; y++ {
			checkHas(t, box(3, 0, 5, 3), x, y, (x == 3 || x == 4) && (y == 0 || y == 1 || y == 2))
		}
	}
}

func TestWhatMayNotBeHasNoPixels(t *testing.T) {
	l := append(append(edges(), ends()...), 3, -3)
	for _, r := range wrongRects() {
		if n := Area(r); n != 0 {
			t.Errorf("P12.1: Area(%v): %d", r, n)
		}
		for _, x := range l {
			for _, y := range l {
				checkHas(t, r, x, y, false)
			}
		}
	}
}

func TestArea(t *testing.T) {
	cases := []struct {
		r    api.Rect
		want int
	}{
		{box(0, 0, 1, 1), 1}, {box(-1, -1, 0, 0), 1}, {box(0, 0, 5, 1), 5}, {box(0, 0, 1, 5), 5}, {box(-3, -5, 4, 2), 49},
		{box(-9, -8, -2, -3), 35}, {box(10, 20, 31, 26), 126}, {all, 1 << 46}, {box(-most, 0, most, 1), 1 << 23}, {box(-1, -most, 0, most), 1 << 23},
		{box(0, 0, most, most), 1 << 44}, {box(1-most, -most, most, most), 1<<46 - 1<<23}, {box(most-1, most-1, most, most), 1},
	}
	for _, c := range cases {
		if got := Area(c.r); got != c.want {
			t.Errorf("P12.1: Area(%v): %d, not %d", c.r, got, c.want)
		}
	}
	c := chance(1)
	for range 500 {
		r, n := c.rect(6), 0
		for x := -7; x <= 7; x++ {
			for y := -7; y <= 7; y++ {
				if Has(r, x, y) {
					n++
				}
			}
		}
		if Area(r) != n {
			t.Errorf("P12.1: Area(%v): %d, where it has %d pixels", r, Area(r), n)
		}
	}
}

func checkAnd(t *testing.T, a, b, want api.Rect) {
	t.Helper()
	if got := And(a, b); got != want {
		t.Errorf("P12.2: And(%v, %v): %v, not %v", a, b, got, want)
	}
}

func checkMinus(t *testing.T, a, b api.Rect, want ...api.Rect) {
	t.Helper()
	if got := Minus(a, b); !slices.Equal(got, want) {
		t.Errorf("P12.2: Minus(%v, %v): %v, not %v", a, b, got, want)
	}
}

func checkParts(t *testing.T, r api.Rect, x, y int, want ...api.Rect) {
	t.Helper()
	if got := Parts(r, x, y); !slices.Equal(got, want) {
		t.Errorf("P12.2: Parts(%v, %d, %d): %v, not %v", r, x, y, got, want)
	}
}

// pair is two rectangles, what both have, and what the first one has alone.
type pair struct {
	a, b, and api.Rect
	minus     []api.Rect
}

// pairs are two that are apart, that touch, and that overlap, in all ways.
func pairs() []pair {
	a := box(0, 0, 6, 5)
	whole := []api.Rect{a}
	return []pair{
		// Apart, to the right, to the left, above, below, and aslant.
		{a, box(7, 1, 9, 4), noughts, whole}, {a, box(-4, 1, -1, 4), noughts, whole}, {a, box(1, 6, 4, 8), noughts, whole},
		{a, box(1, -4, 4, -1), noughts, whole}, {a, box(7, 6, 9, 9), noughts, whole}, {a, box(-3, -3, -1, -1), noughts, whole},
		// Touching at a side.
		{a, box(6, 1, 9, 4), noughts, whole}, {a, box(-4, 0, 0, 5), noughts, whole}, {a, box(0, 5, 6, 8), noughts, whole},
		{a, box(1, -4, 4, 0), noughts, whole},
		// Touching at a corner.
		{a, box(6, 5, 9, 9), noughts, whole}, {a, box(-3, 5, 0, 9), noughts, whole}, {a, box(6, -3, 9, 0), noughts, whole},
		{a, box(-3, -3, 0, 0), noughts, whole},
		// Overlapping at a side: below, above, to the left, to the right.
		{a, box(1, -2, 4, 2), box(1, 0, 4, 2), []api.Rect{box(0, 2, 6, 5), box(0, 0, 1, 2), box(4, 0, 6, 2)}},
		{a, box(2, 3, 5, 9), box(2, 3, 5, 5), []api.Rect{box(0, 0, 6, 3), box(0, 3, 2, 5), box(5, 3, 6, 5)}},
		{a, box(-3, 1, 2, 3), box(0, 1, 2, 3), []api.Rect{box(0, 0, 6, 1), box(0, 3, 6, 5), box(2, 1, 6, 3)}},
		{a, box(5, 2, 9, 4), box(5, 2, 6, 4), []api.Rect{box(0, 0, 6, 2), box(0, 4, 6, 5), box(0, 2, 5, 4)}},
		// Overlapping at a corner.
		{a, box(-3, -2, 2, 1), box(0, 0, 2, 1), []api.Rect{box(0, 1, 6, 5), box(2, 0, 6, 1)}},
		{a, box(4, -2, 8, 1), box(4, 0, 6, 1), []api.Rect{box(0, 1, 6, 5), box(0, 0, 4, 1)}},
		{a, box(-3, 3, 2, 7), box(0, 3, 2, 5), []api.Rect{box(0, 0, 6, 3), box(2, 3, 6, 5)}},
		{a, box(4, 3, 8, 7), box(4, 3, 6, 5), []api.Rect{box(0, 0, 6, 3), box(0, 3, 4, 5)}},
		// Across: a column and a row of it, and all but one side of it.
		{a, box(2, -1, 4, 9), box(2, 0, 4, 5), []api.Rect{box(0, 0, 2, 5), box(4, 0, 6, 5)}},
		{a, box(-1, 2, 9, 3), box(0, 2, 6, 3), []api.Rect{box(0, 0, 6, 2), box(0, 3, 6, 5)}},
		{a, box(-1, -1, 7, 4), box(0, 0, 6, 4), []api.Rect{box(0, 4, 6, 5)}},
		{a, box(-1, 1, 7, 6), box(0, 1, 6, 5), []api.Rect{box(0, 0, 6, 1)}},
		{a, box(-1, -1, 5, 6), box(0, 0, 5, 5), []api.Rect{box(5, 0, 6, 5)}},
		{a, box(1, -1, 7, 6), box(1, 0, 6, 5), []api.Rect{box(0, 0, 1, 5)}},
		// Within, with room on all sides.
		{a, box(2, 1, 4, 3), box(2, 1, 4, 3), []api.Rect{box(0, 0, 6, 1), box(0, 3, 6, 5), box(0, 1, 2, 3), box(4, 1, 6, 3)}},
		// On three.
		{a, box(2, 0, 4, 3), box(2, 0, 4, 3), []api.Rect{box(0, 3, 6, 5), box(0, 0, 2, 3), box(4, 0, 6, 3)}},
		{a, box(2, 1, 4, 5), box(2, 1, 4, 5), []api.Rect{box(0, 0, 6, 1), box(0, 1, 2, 5), box(4, 1, 6, 5)}},
		{a, box(0, 1, 4, 3), box(0, 1, 4, 3), []api.Rect{box(0, 0, 6, 1), box(0, 3, 6, 5), box(4, 1, 6, 3)}},
		{a, box(2, 1, 6, 3), box(2, 1, 6, 3), []api.Rect{box(0, 0, 6, 1), box(0, 3, 6, 5), box(0, 1, 2, 3)}},
		// On two.
		{a, box(0, 0, 4, 3), box(0, 0, 4, 3), []api.Rect{box(0, 3, 6, 5), box(4, 0, 6, 3)}},
		{a, box(2, 1, 6, 5), box(2, 1, 6, 5), []api.Rect{box(0, 0, 6, 1), box(0, 1, 2, 5)}},
		{a, box(0, 1, 4, 5), box(0, 1, 4, 5), []api.Rect{box(0, 0, 6, 1), box(4, 1, 6, 5)}},
		{a, box(2, 0, 6, 3), box(2, 0, 6, 3), []api.Rect{box(0, 3, 6, 5), box(0, 0, 2, 3)}},
		{a, box(0, 1, 6, 3), box(0, 1, 6, 3), []api.Rect{box(0, 0, 6, 1), box(0, 3, 6, 5)}},
		{a, box(2, 0, 4, 5), box(2, 0, 4, 5), []api.Rect{box(0, 0, 2, 5), box(4, 0, 6, 5)}},
		// On one.
		{a, box(0, 0, 6, 3), box(0, 0, 6, 3), []api.Rect{box(0, 3, 6, 5)}},
		{a, box(0, 1, 6, 5), box(0, 1, 6, 5), []api.Rect{box(0, 0, 6, 1)}},
		{a, box(0, 0, 4, 5), box(0, 0, 4, 5), []api.Rect{box(4, 0, 6, 5)}},
		{a, box(2, 0, 6, 5), box(2, 0, 6, 5), []api.Rect{box(0, 0, 2, 5)}},
		// On none: the same; and the other one with room around.
		{a, a, a, nil}, {a, box(-1, -1, 7, 6), a, nil}, {a, box(0, -1, 6, 5), a, nil}, {a, all, a, nil},
	}
}

func TestPairs(t *testing.T) {
	for _, p := range pairs() {
		for _, by := range [][2]int{{0, 0}, {1, -1}, {-3, -2}, {-20, 30}, {1 << 20, -1 << 20}, {most - 9, most - 9}, {4 - most, 4 - most}} {
			a, b, and := moved(p.a, by[0], by[1]), moved(p.b, by[0], by[1]), noughts
			if p.b == all {
				b = all
			}
			if p.and != noughts {
				and = moved(p.and, by[0], by[1])
			}
			var minus []api.Rect
			for _, r := range p.minus {
				minus = append(minus, moved(r, by[0], by[1]))
			}
			checkAnd(t, a, b, and)
			checkAnd(t, b, a, and)
			checkMinus(t, a, b, minus...)
		}
	}
	got := Minus(box(0, 0, 3, 3), box(1, 1, 2, 2))
	var areas []int
	for _, r := range got {
		areas = append(areas, Area(r))
	}
	if !slices.Equal(areas, []int{3, 3, 1, 1}) {
		t.Errorf("P12.2: Minus of 0 0 3 3 and 1 1 2 2: %v, of %v pixels", got, areas)
	}
	checkMinus(t, box(0, 0, 3, 3), box(1, 1, 2, 2), box(0, 0, 3, 1), box(0, 2, 3, 3), box(0, 1, 1, 2), box(2, 1, 3, 2))
}

// TestPairsAtTheBounds has all pixels that there are, and single ones of them.
func TestPairsAtTheBounds(t *testing.T) {
	checkAnd(t, all, all, all)
	checkMinus(t, all, all)
	checkMinus(t, all, box(0, 0, 1, 1), box(-most, -most, most, 0), box(-most, 1, most, most), box(-most, 0, 0, 1), box(1, 0, most, 1))
	checkMinus(t, all, box(-most, -most, 1-most, 1-most), box(-most, 1-most, most, most), box(1-most, -most, most, 1-most))
	checkMinus(t, all, box(most-1, most-1, most, most), box(-most, -most, most, most-1), box(-most, most-1, most-1, most))
	checkMinus(t, all, box(-most, most-1, 1-most, most), box(-most, -most, most, most-1), box(1-most, most-1, most, most))
	checkMinus(t, all, box(most-1, -most, most, 1-most), box(-most, 1-most, most, most), box(-most, -most, most-1, 1-most))
	checkMinus(t, all, box(-most, -most, most, most-1), box(-most, most-1, most, most))
	checkMinus(t, all, box(1-most, -most, most, most), box(-most, -most, 1-most, most))
	checkAnd(t, box(-most, -most, 1, 1), box(0, 0, most, most), box(0, 0, 1, 1))
	checkAnd(t, box(-most, -most, 0, 0), box(0, 0, most, most), noughts)
	for _, r := range goodRects() {
		checkAnd(t, r, all, r)
		checkAnd(t, all, r, r)
		checkAnd(t, r, r, r)
		checkMinus(t, r, all)
		checkMinus(t, r, r)
	}
}

// TestWrongPairs has rectangles that may not be as the first one, as the second one and as both.
func TestWrongPairs(t *testing.T) {
	for _, wrong := range wrongRects() {
		for _, r := range goodRects() {
			checkAnd(t, r, wrong, noughts)
			checkAnd(t, wrong, r, noughts)
			checkMinus(t, r, wrong, r)
			checkMinus(t, wrong, r)
		}
		for _, other := range wrongRects() {
			checkAnd(t, wrong, other, noughts)
			checkMinus(t, wrong, other)
		}
		for _, x := range append(edges(), math.MinInt, math.MaxInt) {
			for _, y := range append(edges(), math.MinInt, math.MaxInt) {
				checkParts(t, wrong, x, y)
			}
		}
	}
}

func TestParts(t *testing.T) {
	r := box(-2, 1, 4, 6)
	left, right, lower, upper := box(-2, 1, 1, 6), box(1, 1, 4, 6), box(-2, 1, 4, 3), box(-2, 3, 4, 6)
	cases := []struct {
		x, y int
		want []api.Rect
	}{
		// In the middle, and just within each side and corner.
		{1, 3, []api.Rect{box(-2, 1, 1, 3), box(1, 1, 4, 3), box(-2, 3, 1, 6), box(1, 3, 4, 6)}},
		{-1, 2, []api.Rect{box(-2, 1, -1, 2), box(-1, 1, 4, 2), box(-2, 2, -1, 6), box(-1, 2, 4, 6)}},
		{3, 5, []api.Rect{box(-2, 1, 3, 5), box(3, 1, 4, 5), box(-2, 5, 3, 6), box(3, 5, 4, 6)}},
		{-1, 5, []api.Rect{box(-2, 1, -1, 5), box(-1, 1, 4, 5), box(-2, 5, -1, 6), box(-1, 5, 4, 6)}},
		{3, 2, []api.Rect{box(-2, 1, 3, 2), box(3, 1, 4, 2), box(-2, 2, 3, 6), box(3, 2, 4, 6)}},
		// On each side, and outside of each.
		{-2, 3, []api.Rect{lower, upper}}, {-3, 3, []api.Rect{lower, upper}}, {4, 3, []api.Rect{lower, upper}}, {5, 3, []api.Rect{lower, upper}},
		{1, 1, []api.Rect{left, right}}, {1, 0, []api.Rect{left, right}}, {1, 6, []api.Rect{left, right}}, {1, 7, []api.Rect{left, right}},
		{math.MinInt, 3, []api.Rect{lower, upper}}, {math.MaxInt, 3, []api.Rect{lower, upper}},
		{1, math.MinInt, []api.Rect{left, right}}, {1, math.MaxInt, []api.Rect{left, right}},
	}
	for _, c := range cases {
		checkParts(t, r, c.x, c.y, c.want...)
	}
	// On each corner, and outside of each.
	for _, x := range append(ends(), -3, -2, 4, 5, -most-1, -most, most, most+1) {
		for _, y := range append(ends(), 0, 1, 6, 7, -most-1, -most, most, most+1) {
			checkParts(t, r, x, y, r)
		}
	}
	checkParts(t, all, 0, 0, box(-most, -most, 0, 0), box(0, -most, most, 0), box(-most, 0, 0, most), box(0, 0, most, most))
	checkParts(t, all, 1-most, most-1, box(-most, -most, 1-most, most-1), box(1-most, -most, most, most-1),
		box(-most, most-1, 1-most, most), box(1-most, most-1, most, most))
	for _, x := range []int{math.MinInt, -most - 1, -most, most, most + 1, math.MaxInt} {
		checkParts(t, all, x, x, all)
		checkParts(t, all, x, -x, all)
		checkParts(t, all, x, 1, box(-most, -most, most, 1), box(-most, 1, most, most))
		checkParts(t, all, -1, x, box(-most, -most, -1, most), box(-1, -most, most, most))
	}
	checkParts(t, box(0, 0, 1, 1), 0, 0, box(0, 0, 1, 1))
	checkParts(t, box(0, 0, 1, 1), 1, 1, box(0, 0, 1, 1))
	checkParts(t, box(0, 0, 2, 1), 1, 1, box(0, 0, 1, 1), box(1, 0, 2, 1))
	checkParts(t, box(0, 0, 1, 2), 1, 1, box(0, 0, 1, 1), box(0, 1, 1, 2))
}

// grid is which pixels there are of a small square of them, side pixels wide and high; bit y times side and x tells one.
type grid uint32

const side = 4

// gridOf is those pixels for which in answers true.
func gridOf(in func(x, y int) bool) grid {
	var g grid
	for y := range side {
		for x := range side {
			if in(x, y) {
				g |= 1 << (y*side + x)
			}
		}
	}
	return g
}

// around is the rectangle of g's pixels, which have no gaps; noughts, if there are none.
func (g grid) around() api.Rect {
	r := noughts
	for i := range side * side {
		x, y := i%side, i/side
		switch {
		case g>>i&1 == 0:
		case r == noughts:
			r = box(x, y, x+1, y+1)
		default:
			r = box(min(r.X0, x), min(r.Y0, y), max(r.X1, x+1), max(r.Y1, y+1))
		}
	}
	return r
}

// moving are those of l that have pixels, moved.
func moving(x, y int, l ...api.Rect) []api.Rect {
	var some []api.Rect
	for _, r := range l {
		if r != noughts {
			some = append(some, moved(r, x, y))
		}
	}
	return some
}

// small are all rectangles of numbers from 0 to side: those, too, that may not be.
func small() []api.Rect {
	var l []api.Rect
	for i := range 5 * 5 * 5 * 5 {
		l = append(l, box(i%5, i/5%5, i/25%5, i/125))
	}
	return l
}

// TestAllSmallPairs holds And and Minus against what the pixels, one by one, make of the chapter's words.
func TestAllSmallPairs(t *testing.T) {
	for _, a := range small() {
		for _, b := range small() {
			both := gridOf(func(x, y int) bool { return has(a, x, y) && has(b, x, y) }).around()
			part := func(in func(x, y int) bool) api.Rect {
				return gridOf(func(x, y int) bool { return has(a, x, y) && in(x, y) }).around()
			}
			// Where they have none in common, all of a lies above the noughts' row.
			below := part(func(_, y int) bool { return y < both.Y0 })
			above := part(func(_, y int) bool { return y >= both.Y1 })
			left := part(func(x, y int) bool { return y >= both.Y0 && y < both.Y1 && x < both.X0 })
			right := part(func(x, y int) bool { return y >= both.Y0 && y < both.Y1 && x >= both.X1 })
			for _, by := range [][2]int{{0, 0}, {-2, -2}, {most - side, -most}} {
				x, y := by[0], by[1]
				and := noughts
				if both != noughts {
					and = moved(both, x, y)
				}
				checkAnd(t, moved(a, x, y), moved(b, x, y), and)
				checkMinus(t, moved(a, x, y), moved(b, x, y), moving(x, y, below, above, left, right)...)
			}
		}
	}
}

// TestAllSmallParts holds Parts against what the pixels, one by one, make of the chapter's words.
func TestAllSmallParts(t *testing.T) {
	for _, r := range small() {
		for i := range 9 * 9 {
			cx, cy := i%9-2, i/9-2
			part := func(left, below bool) api.Rect {
				return gridOf(func(x, y int) bool { return has(r, x, y) && (x < cx) == left && (y < cy) == below }).around()
			}
			l := []api.Rect{part(true, true), part(false, true), part(true, false), part(false, false)}
			for _, by := range [][2]int{{0, 0}, {-2, -2}, {most - side, -most}, {-most, most - side}} {
				x, y := by[0], by[1]
				checkParts(t, moved(r, x, y), cx+x, cy+y, moving(x, y, l...)...)
			}
		}
	}
}

// about are numbers at, beside and between those of l.
func about(l ...int) []int {
	slices.Sort(l)
	var some []int
	for i, n := range l {
		some = append(some, n-1, n, n+1)
		if i > 0 {
			some = append(some, (l[i-1]+n)>>1)
		}
	}
	return some
}

// checkWhole holds that each pixel of r, at one of the X and one of the Y, is in just one of l, and no other one in any; that
// all of l may be; and that their areas add up.
func checkWhole(t *testing.T, what string, r api.Rect, l []api.Rect, xs, ys []int) {
	t.Helper()
	area := 0
	for _, p := range l {
		area += Area(p)
		if !Right(p) {
			t.Errorf("P12.3: %s of %v: %v has none that may not be: %v", what, r, l, p)
		}
	}
	if area != Area(r) {
		t.Errorf("P12.3: %s of %v: %v has %d pixels, not %d", what, r, l, area, Area(r))
	}
	for _, x := range xs {
		for _, y := range ys {
			n, want := 0, 0
			for _, p := range l {
				if Has(p, x, y) {
					n++
				}
			}
			if Has(r, x, y) {
				want = 1
			}
			if n != want {
				t.Errorf("P12.3: %s of %v: %v has the pixel %d %d %d times, not %d", what, r, l, x, y, n, want)
			}
		}
	}
}

// TestEachPixelJustOnce has rectangles of all sizes, up to the bounds.
func TestEachPixelJustOnce(t *testing.T) {
	c, apart, whole := chance(3), 0, 0
	for i := range 6000 {
		far := []int{2, 3, 5, 20, 1 << 10, 1 << 21, most}[i%7]
		a, b := c.rect(far), c.rect(far)
		xs, ys := about(a.X0, a.X1, b.X0, b.X1), about(a.Y0, a.Y1, b.Y0, b.Y1)
		l := Minus(a, b)
		if and := And(a, b); and != noughts {
			l = append(l, and)
		} else {
			apart++
		}
		checkWhole(t, "Minus and And", a, l, xs, ys)
		x, y := c.from(-far-1, far+1), c.from(-far-1, far+1)
		l = Parts(a, x, y)
		if len(l) == 1 {
			whole++
		}
		checkWhole(t, "Parts", a, l, about(a.X0, a.X1, x), about(a.Y0, a.Y1, y))
		for _, p := range l {
			// Each of them lies to one side of x, and of y.
			if p.X0 < x && p.X1 > x || p.Y0 < y && p.Y1 > y {
				t.Errorf("P12.3: Parts(%v, %d, %d): %v isn't parted there", a, x, y, p)
			}
		}
	}
	if apart < 500 || apart > 5000 || whole < 500 || whole > 5000 {
		t.Errorf("of 6000 pairs %d are apart, of 6000 rectangles %d aren't parted: too few or too many to tell anything", apart, whole)
	}
}

// TestEachPixelJustOnceOfMany has wrong rectangles among them, and numbers at the ends of int.
func TestEachPixelJustOnceOfMany(t *testing.T) {
	rects := append(goodRects(), noughts, box(3, 3, 0, 0), box(0, 0, most+1, 1), box(-most-1, -most-1, most+1, most+1))
	for _, a := range rects {
		for _, b := range rects {
			l := Minus(a, b)
			if and := And(a, b); and != noughts {
				l = append(l, and)
			}
			checkWhole(t, "Minus and And", a, l, about(a.X0, a.X1, b.X0, b.X1), about(a.Y0, a.Y1, b.Y0, b.Y1))
		}
		for _, x := range append(edges(), math.MinInt, math.MaxInt) {
			for _, y := range append(edges(), math.MinInt, math.MaxInt) {
				xs, ys := about(a.X0, a.X1), about(a.Y0, a.Y1)
				checkWhole(t, "Parts", a, Parts(a, x, y), append(xs, x), append(ys, y))
			}
		}
	}
}

// TestAnswersAreNewMemory writes over what was answered, and asks again.
func TestAnswersAreNewMemory(t *testing.T) {
	spoil := func(l []api.Rect) {
		for i := range l[:cap(l)] {
			l[:cap(l)][i] = box(9, 9, 8, 8)
		}
	}
	a, b := box(0, 0, 3, 3), box(1, 1, 2, 2)
	for range 2 {
		first, second, third := Minus(a, b), Minus(a, noughts), Parts(a, 1, 1)
		spoil(first)
		spoil(second)
		spoil(third)
		checkMinus(t, a, b, box(0, 0, 3, 1), box(0, 2, 3, 3), box(0, 1, 1, 2), box(2, 1, 3, 2))
		checkMinus(t, a, noughts, a)
		checkParts(t, a, 1, 1, box(0, 0, 1, 1), box(1, 0, 3, 1), box(0, 1, 1, 3), box(1, 1, 3, 3))
	}
}
