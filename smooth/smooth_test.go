package smooth

import (
	"fmt"
	"maps"
	"math"
	"math/big"
	"math/bits"
	"slices"
	"testing"

	"rastrum/api"
	"rastrum/dash"
	"rastrum/wide"
)

const (
	place    = 1 << 28 // the greatest X and Y of an end, written out
	deepest  = 1<<24 - 1
	border   = 1 << 22 // the greatest number of a rectangle, and of a pixel that is asked for
	broadest = 64
)

// everywhere is the greatest rectangle.
var everywhere = api.Rect{X0: -border, Y0: -border, X1: border, Y1: border}

// job is a line, and how wide it is.
type job struct {
	a, b  api.Win
	width int
}

// in is what Line answers of the job in r.
func (j job) in(r api.Rect) []api.Frag {
	return Line(j.a, j.b, j.width, r)
}

// cover is what Cover answers of the job and the pixel x, y.
func (j job) cover(x, y int) int {
	return Cover(j.a, j.b, j.width, x, y)
}

// abs is n without its sign.
func abs(n int) int {
	if n < 0 {
		return -n
	}
	return n
}

// floorDiv is n divided by d, which is 1 or more, rounded down.
func floorDiv(n, d int) int {
	rest := (n%d + d) % d
	return (n - rest) / d
}

// chance is a row of numbers that look like chance and are the same at each run.
type chance uint64

// from is the next number from least to greatest.
func (c *chance) from(least, greatest int) int {
	*c ^= *c << 13
	*c ^= *c >> 7
	*c ^= *c << 17
	return least + int(*c>>1)%(greatest-least+1)
}

// win is an end at most so far from the middle by X and by Y, of any depth and color.
func (c *chance) win(far int) api.Win {
	w := api.Win{X: c.from(-far, far), Y: c.from(-far, far), Z: c.from(0, []int{10, 1000, deepest}[c.from(0, 2)])}
	for i := range w.C {
		w.C[i] = c.from(0, 255)
	}
	return w
}

// triples are ways whose length is whole.
var triples = [][2]int{{3, 4}, {4, 3}, {-3, 4}, {4, -3}, {-4, -3}, {5, 12}, {-12, 5}, {-15, -8}, {8, 15}, {21, -20}, {-7, 24}, {1, 0}, {0, -1}}

// job is one between ends at most about so far from the middle: level, upright, about as wide as high, of a whole length, or any.
func (c *chance) job(far int) job {
	j := job{a: c.win(far), b: c.win(far), width: []int{1, 2, 3, c.from(1, 9), c.from(1, broadest)}[c.from(0, 4)]}
	switch c.from(0, 7) {
	case 0:
		j.b.X = j.a.X
	case 1:
		j.b.Y = j.a.Y
	case 2:
		j.a.X, j.a.Y = j.b.Y, j.b.X+c.from(-1, 1)
	case 3:
		j.a.X, j.b.X = j.a.X/64*64+16, j.b.X/64*64+16
		j.a.Y, j.b.Y = j.a.Y/64*64+16, j.b.Y/64*64+16
	case 4:
		way, times := triples[c.from(0, len(triples)-1)], c.from(0, far/25)
		j.a.X, j.a.Y = j.a.X/32*32+16, j.a.Y/32*32+16
		j.b.X, j.b.Y = j.a.X+times*way[0], j.a.Y+times*way[1]
		j.width = c.from(1, 2) * []int{1, 5, 13, 17, 25, 29}[c.from(0, 5)]
	}
	// A line of a whole length may lead out of the bound.
	j.b.X, j.b.Y = max(-place, min(j.b.X, place)), max(-place, min(j.b.Y, place))
	return j
}

// rect is one whose numbers are no further from x and y than far.
func (c *chance) rect(x, y, far int) api.Rect {
	x0, y0 := c.from(-far, far-1), c.from(-far, far-1)
	return api.Rect{X0: x + x0, Y0: y + y0, X1: x + c.from(x0+1, far), Y1: y + c.from(y0+1, far)}
}

// isInStrip tells, by the chapter's words, whether the point x, y is in the job's strip.
func (j job) isInStrip(x, y int) bool {
	dx, dy, qx, qy := j.b.X-j.a.X, j.b.Y-j.a.Y, x-j.a.X, y-j.a.Y
	square := dx*dx + dy*dy
	if along := qx*dx + qy*dy; along < 0 || along >= square {
		return false
	}
	c, half := dx*qy-dy*qx, 128*j.width
	hi, lo := bits.Mul64(uint64(abs(c)), uint64(abs(c)))
	most, least := bits.Mul64(uint64(half*half), uint64(square))
	if hi != most {
		return hi < most
	}
	return lo < least || lo == least && c > 0
}

// slowCover is how many samples of the pixel x, y are in the job's strip: each is tried.
func (j job) slowCover(x, y int) int {
	n := 0
	for i := range 64 {
		if j.isInStrip(256*x+i%8*32+16, 256*y+i/8*32+16) {
			n++
		}
	}
	return n
}

// standing is what stands, of p at the job's one end and q at the other, across the pixel x, y.
func (j job) standing(p, q, x, y int) int {
	dx, dy := j.b.X-j.a.X, j.b.Y-j.a.Y
	d := dx*dx + dy*dy
	n := max(0, min((256*x+128-j.a.X)*dx+(256*y+128-j.a.Y)*dy, d))
	sum := new(big.Int).Mul(big.NewInt(int64(p)), big.NewInt(int64(d-n)))
	sum.Add(sum, new(big.Int).Mul(big.NewInt(int64(q)), big.NewInt(int64(n))))
	return int(sum.Div(sum, big.NewInt(int64(d))).Int64())
}

// around is the pixels of r among which all are that the job may cover.
func (j job) around(r api.Rect) api.Rect {
	far := j.width/2 + 2
	return api.Rect{X0: max(r.X0, floorDiv(min(j.a.X, j.b.X), 256)-far), X1: min(r.X1, floorDiv(max(j.a.X, j.b.X), 256)+far+1),
		Y0: max(r.Y0, floorDiv(min(j.a.Y, j.b.Y), 256)-far), Y1: min(r.Y1, floorDiv(max(j.a.Y, j.b.Y), 256)+far+1)}
}

// slow is the job's fragments in r: each sample of each pixel is tried.
func (j job) slow(r api.Rect) []api.Frag {
	r = j.around(r)
	var l []api.Frag
	for y := r.Y0; y < r.Y1; y++ {
		for x := r.X0; x < r.X1; x++ {
			f := api.Frag{X: x, Y: y, Cov: j.slowCover(x, y)}
			if f.Cov == 0 {
				continue
			}
			f.Z = j.standing(j.a.Z, j.b.Z, x, y)
			for i := range f.C {
				f.C[i] = j.standing(j.a.C[i], j.b.C[i], x, y)
			}
			l = append(l, f)
		}
	}
	return l
}

// inside is those of l whose pixels are in r.
func inside(l []api.Frag, r api.Rect) []api.Frag {
	var some []api.Frag
	for _, f := range l {
		if r.X0 <= f.X && f.X < r.X1 && r.Y0 <= f.Y && f.Y < r.Y1 {
			some = append(some, f)
		}
	}
	return some
}

// covered is where fragments are, and how many samples each covers.
func covered(l []api.Frag) [][3]int {
	var some [][3]int
	for _, f := range l {
		some = append(some, [3]int{f.X, f.Y, f.Cov})
	}
	return some
}

// win is an end at x, y, with that depth and color.
func win(x, y, z int, c ...int) api.Win {
	w := api.Win{X: x, Y: y, Z: z}
	copy(w.C[:], c)
	return w
}

// unlike tells where fragments are other ones than they must be, of which there may be very many.
func unlike(got, want []api.Frag) string {
	i := 0
	for i < min(len(got), len(want)) && got[i] == want[i] {
		i++
	}
	return fmt.Sprintf("%d fragments, not %d; from %d on %v, not %v", len(got), len(want), i, got[i:min(i+3, len(got))], want[i:min(i+3, len(want))])
}

// checkIn holds what Line answers in r against these.
func checkIn(t *testing.T, j job, r api.Rect, want []api.Frag) {
	t.Helper()
	if got := j.in(r); !slices.Equal(got, want) {
		t.Errorf("P18.1: Line of %+v in %v: %s", j, r, unlike(got, want))
	}
}

// checkWhole holds a line, as a whole, pixel by pixel and in some rectangles, against all samples that are around it.
func checkWhole(t *testing.T, j job, some ...api.Rect) {
	t.Helper()
	if !Right(j.a, j.b, j.width) {
		t.Errorf("P18.1: %+v may not be", j)
	}
	whole := j.slow(everywhere)
	for _, r := range append(some, everywhere) {
		checkIn(t, j, r, inside(whole, r))
	}
	covers := map[[2]int]int{}
	for _, f := range whole {
		covers[[2]int{f.X, f.Y}] = f.Cov
	}
	r := j.around(everywhere)
	for y := r.Y0 - 1; y <= r.Y1; y++ {
		for x := r.X0 - 1; x <= r.X1; x++ {
			if got, want := j.cover(x, y), covers[[2]int{x, y}]; got != want {
				t.Errorf("P18.1: Cover of %+v at %d %d: %d, not %d", j, x, y, got, want)
				return
			}
		}
	}
}

func TestExamples(t *testing.T) {
	for _, c := range []struct{ ax, bx, first, second int }{{0, 512, 64, 64}, {128, 384, 32, 32}} {
		a, b := win(c.ax, 128, 0), win(c.bx, 128, 0)
		if first, second := Cover(a, b, 1, 0, 0), Cover(a, b, 1, 1, 0); first != c.first || second != c.second {
			t.Errorf("P18.1: one wide, from %d 128 to %d 128: %d, and %d", c.ax, c.bx, first, second)
		}
		if got := covered(Line(a, b, 1, everywhere)); !slices.Equal(got, [][3]int{{0, 0, c.first}, {1, 0, c.second}}) {
			t.Errorf("P18.1: one wide, from %d 128 to %d 128: %v", c.ax, c.bx, got)
		}
	}
}

func TestCoversWritten(t *testing.T) {
	for _, c := range []struct {
		ax, ay, bx, by, width int
		want                  [][3]int
	}{
		// Level, to the right and to the left: wholly covered, in part, and by just one row of samples.
		{512, 128, 0, 128, 1, [][3]int{{0, 0, 64}, {1, 0, 64}}}, {384, 128, 128, 128, 1, [][3]int{{0, 0, 32}, {1, 0, 32}}},
		{0, 128, 512, 128, 2, [][3]int{{0, -1, 32}, {1, -1, 32}, {0, 0, 64}, {1, 0, 64}, {0, 1, 32}, {1, 1, 32}}},
		{0, 128, 256, 128, 3, [][3]int{{0, -1, 64}, {0, 0, 64}, {0, 1, 64}}}, {0, 256, 256, 256, 1, [][3]int{{0, 0, 32}, {0, 1, 32}}},
		{0, 256, 256, 256, 4, [][3]int{{0, -1, 64}, {0, 0, 64}, {0, 1, 64}, {0, 2, 64}}},
		// Upright, up and down.
		{128, 0, 128, 512, 1, [][3]int{{0, 0, 64}, {0, 1, 64}}}, {128, 512, 128, 0, 1, [][3]int{{0, 0, 64}, {0, 1, 64}}},
		{128, 128, 128, 384, 2, [][3]int{{-1, 0, 16}, {0, 0, 32}, {1, 0, 16}, {-1, 1, 16}, {0, 1, 32}, {1, 1, 16}}},
		// Samples at the first end are in it, at the last one they aren't.
		{16, 128, 272, 128, 1, [][3]int{{0, 0, 64}}}, {272, 128, 16, 128, 1, [][3]int{{0, 0, 56}, {1, 0, 8}}},
		{128, 16, 128, 272, 1, [][3]int{{0, 0, 64}}}, {128, 272, 128, 16, 1, [][3]int{{0, 0, 56}, {0, 1, 8}}},
		{17, 128, 273, 128, 1, [][3]int{{0, 0, 56}, {1, 0, 8}}}, {15, 128, 271, 128, 1, [][3]int{{0, 0, 64}}},
		// Samples at the boundary on the left, seen from the first end, are in it; on the right they aren't.
		{0, 144, 256, 144, 1, [][3]int{{0, 0, 56}, {0, 1, 8}}}, {256, 144, 0, 144, 1, [][3]int{{0, 0, 64}}},
		{144, 0, 144, 256, 1, [][3]int{{0, 0, 64}}}, {144, 256, 144, 0, 1, [][3]int{{0, 0, 56}, {1, 0, 8}}},
		{0, 143, 256, 143, 1, [][3]int{{0, 0, 64}}}, {256, 145, 0, 145, 1, [][3]int{{0, 0, 56}, {0, 1, 8}}},
		{0, 16, 256, 16, 2, [][3]int{{0, -1, 56}, {0, 0, 64}, {0, 1, 8}}}, {256, 16, 0, 16, 2, [][3]int{{0, -1, 64}, {0, 0, 64}}},
		// From a point to itself, and one unit on: none, and what a sliver covers.
		{128, 128, 128, 128, 1, nil}, {16, 16, 16, 16, 64, nil}, {128, 128, 129, 128, 1, nil}, {16, 128, 17, 128, 1, [][3]int{{0, 0, 8}}},
		{15, 128, 16, 128, 1, nil}, {16, 128, 15, 128, 1, [][3]int{{0, 0, 8}}}, {128, 16, 128, 17, 3, [][3]int{{-1, 0, 8}, {0, 0, 8}, {1, 0, 8}}},
		{16, 16, 17, 17, 1, [][3]int{{0, -1, 2}, {-1, 0, 2}, {0, 0, 1}}}, {17, 17, 16, 16, 1, nil},
	} {
		j := job{win(c.ax, c.ay, 0), win(c.bx, c.by, 0), c.width}
		if got := covered(j.in(everywhere)); !slices.Equal(got, c.want) {
			t.Errorf("P18.1: Line of %+v: %v, not %v", j, got, c.want)
		}
		checkWhole(t, j)
	}
}

// TestCornersOnSamples holds a line, there and back, of whose strip all four corners are samples, since its length is whole: just the
// corner at the first end, on the left, is in it.
func TestCornersOnSamples(t *testing.T) {
	there, back := job{win(16, 16, 0), win(112, 144, 0), 5}, job{win(112, 144, 0), win(16, 16, 0), 5}
	for _, c := range []struct {
		j          job
		x, y, want int
	}{
		// Counted out: i and j samples from 16 16 on, 3i+4j must be from 0 to 24, and 3j-4i from -99 to 100. The corners are in the
		// pixels -2 1 (that of the first end, on the left), 2 -2, -2 2 and 2 -1.
		{there, -2, 1, 37}, {there, 2, -2, 6}, {there, -2, 2, 0}, {there, 2, -1, 6}, {there, 0, 0, 32}, {there, -3, 1, 0}, {there, 3, -2, 0},
		// Back, from 1 to 25, and from -100 to 99. The corner at the first end, on the left, is in the pixel 2 -1.
		{back, -2, 1, 36}, {back, 2, -2, 6}, {back, -2, 2, 0}, {back, 2, -1, 7}, {back, 0, 0, 33}, {back, -3, 1, 0}, {back, 3, -2, 0},
	} {
		if got := c.j.cover(c.x, c.y); got != c.want {
			t.Errorf("P18.1: Cover of %+v at %d %d: %d, not %d", c.j, c.x, c.y, got, c.want)
		}
		checkWhole(t, c.j)
	}
}

func TestLooksWritten(t *testing.T) {
	a, b := win(128, 128, 0, 0, 255, 10, 200), win(1152, 128, 1000, 255, 0, 14, 200)
	second, third, fourth := api.Color{63, 191, 11, 200}, api.Color{127, 127, 12, 200}, api.Color{191, 63, 13, 200}
	want := []api.Frag{{X: 0, Z: 0, C: a.C, Cov: 32}, {X: 1, Z: 250, C: second, Cov: 64}, {X: 2, Z: 500, C: third, Cov: 64},
		{X: 3, Z: 750, C: fourth, Cov: 64}, {X: 4, Z: 1000, C: b.C, Cov: 32}}
	checkIn(t, job{a, b, 1}, everywhere, want)
	checkIn(t, job{b, a, 1}, everywhere, want)
	// Just what is in a rectangle: the first one, the last one, two, one, and none.
	checkIn(t, job{a, b, 1}, api.Rect{X0: -9, Y0: -9, X1: 1, Y1: 9}, want[:1])
	checkIn(t, job{a, b, 1}, api.Rect{X0: 4, Y0: 0, X1: 5, Y1: 1}, want[4:])
	checkIn(t, job{a, b, 1}, api.Rect{X0: 1, Y0: 0, X1: 3, Y1: 9}, want[1:3])
	checkIn(t, job{a, b, 1}, api.Rect{X0: 2, Y0: -5, X1: 3, Y1: 1}, want[2:3])
	checkIn(t, job{a, b, 1}, api.Rect{X0: -9, Y0: 1, X1: 9, Y1: 9}, nil)
	checkIn(t, job{a, b, 1}, api.Rect{X0: -9, Y0: -9, X1: 9, Y1: 0}, nil)
	checkIn(t, job{a, b, 1}, api.Rect{X0: 5, Y0: -9, X1: 9, Y1: 9}, nil)
	checkIn(t, job{a, b, 1}, api.Rect{X0: -9, Y0: -9, X1: 0, Y1: 9}, nil)
	// Upright it is the same, row by row; and as wide as high it's the nearest place of the line that tells.
	checkIn(t, job{win(128, 128, 0, 0, 255, 10, 200), win(128, 1152, 1000, 255, 0, 14, 200), 1}, everywhere,
		[]api.Frag{{Y: 0, Z: 0, C: a.C, Cov: 32}, {Y: 1, Z: 250, C: second, Cov: 64}, {Y: 2, Z: 500, C: third, Cov: 64},
			{Y: 3, Z: 750, C: fourth, Cov: 64}, {Y: 4, Z: 1000, C: b.C, Cov: 32}})
	checkIn(t, job{win(0, 0, 0), win(512, 512, 1000), 1}, api.Rect{X0: 0, Y0: 0, X1: 2, Y1: 2},
		[]api.Frag{{Z: 250, Cov: 58}, {X: 1, Z: 500, Cov: 15}, {Y: 1, Z: 500, Cov: 15}, {X: 1, Y: 1, Z: 750, Cov: 58}})
}

// net is the points of two pixels each way that lie at these places of them.
func net(places ...int) []api.Win {
	var l []api.Win
	for _, x := range places {
		for _, y := range places {
			for i := range 4 {
				l = append(l, win(x-i%2*256, y-i/2*256, 7+x*y, i, 250-i, x&255, y&255))
			}
		}
	}
	return l
}

func TestAllLinesOfANet(t *testing.T) {
	some := []api.Rect{{X0: 0, Y0: 0, X1: 1, Y1: 1}, {X0: -1, Y0: -2, X1: 1, Y1: 1}, {X0: -9, Y0: -1, X1: 9, Y1: 0}, {X0: 0, Y0: -9, X1: 1, Y1: 9}}
	for _, l := range [][]api.Win{net(0, 16, 128), net(17, 143, 144)} {
		for _, a := range l {
			for _, b := range l {
				for _, width := range []int{1, 2, 3, 5} {
					checkWhole(t, job{a, b, width}, some...)
				}
			}
			if t.Failed() {
				return
			}
		}
	}
}

// TestSlivers holds lines of a few units, in each direction.
func TestSlivers(t *testing.T) {
	for _, a := range []api.Win{win(16, 16, 9, 200), win(15, 17, 9, 200), win(0, 128, 9, 200), win(240, -16, 9, 200)} {
		for x := -5; x <= 5; x++ {
			for y := -5; y <= 5; y++ {
				b := a
				b.X, b.Y, b.Z, b.C[0] = a.X+x, a.Y+y, 500, 7
				checkWhole(t, job{a, b, 1}, api.Rect{X0: 0, Y0: -5, X1: 1, Y1: 5})
				checkWhole(t, job{a, b, 5}, api.Rect{X0: -2, Y0: 1, X1: -1, Y1: 2})
				checkWhole(t, job{a, b, 24}, api.Rect{X0: 3, Y0: -5, X1: 9, Y1: 50})
			}
		}
		if t.Failed() {
			return
		}
	}
}

func TestLinesOfManyPixels(t *testing.T) {
	c := chance(17)
	for range 3000 {
		j := c.job([]int{300, 700, 2500}[c.from(0, 2)])
		x, y := j.a.X/256, j.b.Y/256
		checkWhole(t, j, c.rect(0, 0, 4), c.rect(x, y, 10), c.rect(y, x, 40), c.rect(x, y, 2))
		if t.Failed() {
			return
		}
	}
}

func TestEachWidth(t *testing.T) {
	for width := 1; width <= broadest; width++ {
		for _, b := range []api.Win{win(732, 16, 9), win(-700, 30, 9), win(16, 800, 9), win(40, -800, 9), win(600, 600, 9), win(-464, 656, 9)} {
			j := job{win(16, 16, 1000, 1, 2, 3, 255), b, width}
			checkWhole(t, j, api.Rect{X0: -1, Y0: 0, X1: 2, Y1: 3}, api.Rect{X0: -40, Y0: -40, X1: 0, Y1: 0})
		}
	}
}

// TestWhollyAndNotAtAll holds pixels far within a wide line, beside it, and behind both of its ends.
func TestWhollyAndNotAtAll(t *testing.T) {
	j := job{win(0, 0, 0), win(256*300, 256*400, 0), 20}
	for i := 20; i <= 480; i++ {
		x, y := i*3/5, i*4/5
		for _, c := range []struct{ x, y, want int }{{x, y, 64}, {x - 5, y + 4, 64}, {x + 5, y - 4, 64}, {x - 11, y + 8, 0}, {x + 11, y - 8, 0},
			{x - 300, y - 400, 0}, {x + 300, y + 400, 0}} {
			if got := j.cover(c.x, c.y); got != c.want {
				t.Fatalf("P18.1: Cover of %+v at %d %d: %d, not %d", j, c.x, c.y, got, c.want)
			}
		}
	}
}

// checkAt holds a line in the pixels about the point x, y, alone and as a rectangle, and tells whether some are covered in part.
func checkAt(t *testing.T, j job, x, y int) bool {
	t.Helper()
	x, y = floorDiv(x, 256), floorDiv(y, 256)
	r := api.Rect{X0: x - 2, Y0: y - 2, X1: x + 3, Y1: y + 3}
	checkIn(t, j, r, j.slow(r))
	part := false
	for i := -1; i <= 1; i++ {
		for k := -1; k <= 1; k++ {
			got, want := j.cover(x+i, y+k), j.slowCover(x+i, y+k)
			if got != want {
				t.Errorf("P18.1: Cover of %+v at %d %d: %d, not %d", j, x+i, y+k, got, want)
			}
			part = part || 0 < want && want < 64
		}
	}
	return part
}

// checkBoundary holds a line at its ends, and about places of its boundary on both sides.
func checkBoundary(t *testing.T, c *chance, j job) (parts int) {
	t.Helper()
	dx, dy := float64(j.b.X-j.a.X), float64(j.b.Y-j.a.Y)
	length := math.Hypot(dx, dy)
	aside := 128 * float64(j.width) / max(1, length)
	// Places are taken by floats: wherever they come to lie, the pixels there must be right.
	for range 8 {
		along := []float64{0, 1, 0.5, float64(c.from(0, 1<<30)) / (1 << 30)}[c.from(0, 3)]
		side := []float64{-1, 1, -1, 1, 0, float64(c.from(0, 2000))/1000 - 1}[c.from(0, 5)]
		x := j.a.X + int(math.Round(along*dx-side*aside*dy))
		y := j.a.Y + int(math.Round(along*dy+side*aside*dx))
		if checkAt(t, j, x, y) {
			parts++
		}
	}
	return parts
}

func TestLongLines(t *testing.T) {
	c := chance(18)
	parts, several := 0, []int{-place, place, 0, place - 1, 16 - place, place/32*32 - 16}
	for i := range 6000 {
		j := c.job([]int{place, 1 << 20, 1 << 24}[c.from(0, 2)])
		if i%3 == 0 {
			j.a.X, j.a.Y = several[c.from(0, 5)], several[c.from(0, 5)]
			j.b.X, j.b.Y = several[c.from(0, 5)], several[c.from(0, 5)]
		}
		parts += checkBoundary(t, &c, j)
		if t.Failed() {
			return
		}
	}
	if parts < 20000 {
		t.Errorf("P18.1: just %d pixels were covered in part", parts)
	}
}

// TestLongLinesOfWholeLength holds the longest lines that have samples on the boundary of their strip: a float would miss them.
func TestLongLinesOfWholeLength(t *testing.T) {
	const times = 1 << 27
	for _, c := range []struct {
		j job
		// The boundary is that far from the line: on the left this way.
		x, y int
	}{
		{job{win(16-place, 16-place, 0), win(16-place+3*times-768, 16-place+4*times-1024, deepest), 5}, -512, 384},
		{job{win(16-place+3*times-768, 16-place+4*times-1024, deepest), win(16-place, 16-place, 0), 5}, 512, -384},
		{job{win(16-place, place-16, 0), win(16-place+3*times-768, place-16-4*times+1024, deepest), 10}, 1024, 768},
		{job{win(16-place, 16-place, 0), win(16-place+4*times-1024, 16-place+3*times-768, deepest), 60}, -4608, 6144},
		{job{win(16-place, 16, 0), win(place-16, 16, deepest), 64}, 0, 8192}, {job{win(place-16, 16, 0), win(16-place, 16, deepest), 64}, 0, -8192},
		{job{win(16, 16-place, 0), win(16, place-16, deepest), 1}, -128, 0}, {job{win(16, place-16, 0), win(16, 16-place, deepest), 1}, 128, 0},
	} {
		for part := range 9 {
			x, y := c.j.a.X+(c.j.b.X-c.j.a.X)/8*part, c.j.a.Y+(c.j.b.Y-c.j.a.Y)/8*part
			checkAt(t, c.j, x, y)
			checkAt(t, c.j, x+c.x, y+c.y)
			checkAt(t, c.j, x-c.x, y-c.y)
			checkAt(t, c.j, x+2*c.x, y+2*c.y)
			if part == 8 {
				continue
			}
			if left, right := c.j.isInStrip(x+c.x, y+c.y), c.j.isInStrip(x-c.x, y-c.y); !left || right {
				t.Errorf("the boundary of %+v isn't at %d %d", c.j, x+c.x, y+c.y)
			}
		}
	}
}

func TestAtTheBounds(t *testing.T) {
	const last = 1 << 20 // one beyond the pixel in which an end may lie
	white := api.Color{255, 255, 255, 255}
	for _, c := range []struct {
		j    job
		r    api.Rect
		want []api.Frag
	}{
		{job{win(-place, -place, deepest, 255, 255, 255, 255), win(place, -place, deepest, 255, 255, 255, 255), 64},
			api.Rect{X0: -border, Y0: -border, X1: 1 - last, Y1: -last - 31}, []api.Frag{{X: -last, Y: -last - 32, Z: deepest, C: white, Cov: 64}}},
		{job{win(place, place, 0), win(-place, place, 0), 64}, api.Rect{X0: last - 1, Y0: last + 31, X1: border, Y1: border},
			[]api.Frag{{X: last - 1, Y: last + 31, Cov: 64}}},
		{job{win(-place, place, 9), win(-place, -place, 9), 63}, api.Rect{X0: -border, Y0: 5, X1: -last - 31, Y1: 6},
			[]api.Frag{{X: -last - 32, Y: 5, Z: 9, Cov: 32}}},
		{job{win(place, -place, 9), win(place, place, 9), 1}, api.Rect{X0: last, Y0: last - 1, X1: border, Y1: border},
			[]api.Frag{{X: last, Y: last - 1, Z: 9, Cov: 32}}},
		{job{win(-place, -place, 0), win(place, place, deepest), 1}, api.Rect{X0: -border, Y0: -border, X1: border, Y1: 1 - last},
			[]api.Frag{{X: -last, Y: -last - 1, Z: 0, Cov: 9}, {X: -last - 1, Y: -last, Z: 0, Cov: 9}, {X: -last, Y: -last, Z: 3, Cov: 58},
				{X: 1 - last, Y: -last, Z: 7, Cov: 15}}},
	} {
		checkIn(t, c.j, c.r, c.want)
	}
}

// TestPixelsAtTheBounds asks for pixels out to where they may be asked for: no strip reaches there.
func TestPixelsAtTheBounds(t *testing.T) {
	c := chance(40)
	far := []int{-border, 1 - border, -1 << 21, -1<<20 - 66, 1<<20 + 66, 1 << 21, border - 1, border}
	for range 3000 {
		j := c.job([]int{2000, place}[c.from(0, 1)])
		if c.from(0, 1) == 0 {
			j.a.X, j.b.X, j.width = -place, place, broadest
		}
		for _, n := range far {
			near := c.from(-9, 9)
			for _, p := range [][2]int{{n, near}, {near, n}, {n, far[c.from(0, 7)]}, {far[c.from(0, 7)], n}} {
				if got := j.cover(p[0], p[1]); got != 0 {
					t.Fatalf("P18.1: Cover of %+v at %v: %d", j, p, got)
				}
			}
		}
	}
}

// TestPixelsFurtherOut asks for pixels that none has to ask for: they are like all that no strip reaches.
func TestPixelsFurtherOut(t *testing.T) {
	j := job{win(-600, 0, 0), win(600, 0, 0), 9}
	for _, n := range []int{-border - 1, border + 1, 1 << 55, 1 << 56, 1 << 61, -1 << 61, math.MinInt, math.MinInt + 1, math.MaxInt - 1, math.MaxInt} {
		if right, above, both := j.cover(n, 0), j.cover(0, n), j.cover(n, n); right != 0 || above != 0 || both != 0 {
			t.Errorf("P18.1: Cover of %+v at %d: %d, %d and %d", j, n, right, above, both)
		}
	}
}

// TestAlongTheColumn holds the longest lines in columns, and in rows, as long as may be: row by row from end to end, each of these
// would take long.
func TestAlongTheColumn(t *testing.T) {
	c := chance(70)
	for range 1500 {
		j := job{c.win(place), c.win(place), c.from(1, broadest)}
		j.a.X, j.b.X = -place, place
		if c.from(0, 1) == 0 {
			j.a.X, j.b.X = place, -place
		}
		x := c.from(-1<<20+80, 1<<20-80)
		y := floorDiv(int(float64(j.b.Y-j.a.Y)/float64(j.b.X-j.a.X)*float64(256*x-j.a.X))+j.a.Y, 256)
		column, there := api.Rect{X0: x, Y0: -border, X1: x + 1, Y1: border}, api.Rect{X0: x, Y0: y - 99, X1: x + 1, Y1: y + 99}
		want := j.slow(there)
		if len(want) < j.width {
			t.Fatalf("in %v there is no %+v", there, j)
		}
		checkIn(t, j, column, want)
		checkIn(t, j, api.Rect{X0: x, Y0: there.Y1, X1: x + 1, Y1: border}, nil)
		j.a.X, j.a.Y, j.b.X, j.b.Y = j.a.Y, j.a.X, j.b.Y, j.b.X
		there.X0, there.Y0, there.X1, there.Y1 = there.Y0, there.X0, there.Y1, there.X1
		checkIn(t, j, api.Rect{X0: -border, Y0: x, X1: border, Y1: x + 1}, j.slow(there))
		if t.Failed() {
			return
		}
	}
}

// TestRectanglesAtTheBounds holds rectangles that reach up to the bounds.
func TestRectanglesAtTheBounds(t *testing.T) {
	c := chance(22)
	for range 400 {
		j := c.job(2500)
		x, y := c.from(-9, 9), c.from(-9, 9)
		checkWhole(t, j, api.Rect{X0: -border, Y0: -border, X1: x, Y1: y}, api.Rect{X0: x, Y0: y, X1: border, Y1: border},
			api.Rect{X0: -border, Y0: y, X1: border, Y1: y + 1}, api.Rect{X0: x, Y0: -border, X1: x + 1, Y1: border},
			api.Rect{X0: -border, Y0: -border, X1: 1 - border, Y1: 1 - border}, api.Rect{X0: -border, Y0: -border, X1: 1 - border, Y1: border},
			api.Rect{X0: -border, Y0: border - 1, X1: border, Y1: border}, api.Rect{X0: border - 1, Y0: border - 1, X1: border, Y1: border})
		if t.Failed() {
			return
		}
	}
}

// checkRight tells of a Right that isn't as it must be, and of a Cover and a Line of what may not be.
func checkRight(t *testing.T, j job, want bool) {
	t.Helper()
	if got := Right(j.a, j.b, j.width); got != want {
		t.Errorf("P18.1: Right(%v, %v, %d): %v", j.a, j.b, j.width, got)
	}
	if got := wide.Right(j.a, j.b, j.width, api.Dash{Repeat: 1}); got != want {
		t.Errorf("P18.1: wide.Right(%v, %v, %d): %v", j.a, j.b, j.width, got)
	}
	if want {
		return
	}
	for _, r := range []api.Rect{{X0: -20, Y0: -20, X1: 20, Y1: 20}, everywhere, {}, {X0: math.MinInt, Y0: 0, X1: math.MaxInt, Y1: 1}} {
		checkIn(t, j, r, nil)
	}
	for _, x := range []int{-border, -1, 0, 1, 4, 7, border} {
		for _, y := range []int{-border, 0, 1, 2, border} {
			if got := j.cover(x, y); got != 0 {
				t.Errorf("P18.1: Cover of %+v at %d %d: %d", j, x, y, got)
			}
		}
	}
}

// bounded is one of a job's numbers: which, and from where to where it may be.
type bounded struct {
	of              func(j *job) *int
	least, greatest int
}

// numbers are all of a job that have bounds.
func numbers() []bounded {
	l := []bounded{{func(j *job) *int { return &j.width }, 1, broadest}}
	for _, end := range []func(j *job) *api.Win{func(j *job) *api.Win { return &j.a }, func(j *job) *api.Win { return &j.b }} {
		l = append(l, bounded{func(j *job) *int { return &end(j).X }, -place, place}, bounded{func(j *job) *int { return &end(j).Y }, -place, place},
			bounded{func(j *job) *int { return &end(j).Z }, 0, deepest})
		for i := range 4 {
			l = append(l, bounded{func(j *job) *int { return &end(j).C[i] }, 0, 255})
		}
	}
	return l
}

// wrongs is numbers that this one may not be: one below and above what may, further out, and at the ends of the int's range.
func (b bounded) wrongs() []int {
	return []int{b.least - 1, b.greatest + 1, b.least - 256, b.greatest + 256, -1 << 32, 1<<41 + 1, 1<<48 + 1, math.MinInt, math.MinInt + 1,
		math.MaxInt - 1, math.MaxInt, math.MinInt + place, math.MaxInt - place, 1 << 62, -1 << 62}
}

func TestRight(t *testing.T) {
	c := chance(31)
	base := job{win(100, 100, 5, 1, 2, 3, 4), win(2000, 900, 50, 40, 30, 20, 10), 3}
	if !dash.Right(api.Dash{Repeat: 1}) {
		t.Fatal("that dash may not be")
	}
	checkRight(t, base, true)
	for _, b := range numbers() {
		for _, n := range []int{b.least, b.least + 1, b.greatest - 1, b.greatest} {
			j := base
			*b.of(&j) = n
			checkRight(t, j, true)
		}
		for _, n := range b.wrongs() {
			j := base
			*b.of(&j) = n
			checkRight(t, j, false)
			j = c.job(place)
			*b.of(&j) = n
			checkRight(t, j, false)
		}
	}
	for _, b := range numbers() {
		for _, other := range numbers() {
			j := base
			*b.of(&j), *other.of(&j) = b.wrongs()[c.from(0, 14)], other.wrongs()[c.from(0, 14)]
			checkRight(t, j, false)
		}
	}
	checkRight(t, job{}, false)
	// All at their bounds, the least ones and the greatest.
	least, greatest := base, base
	for _, b := range numbers() {
		*b.of(&least), *b.of(&greatest) = b.least, b.greatest
	}
	checkRight(t, least, true)
	checkRight(t, greatest, true)
}

// wrongRects is rectangles that may not be, that lines about the middle would be in, were it not for that.
func wrongRects() []api.Rect {
	l := []api.Rect{{}, {X0: 20, Y0: 20, X1: -20, Y1: -20}, {X0: 1, Y0: -20, X1: 1, Y1: 20}, {X0: -20, Y0: 1, X1: 20, Y1: 1},
		{X0: math.MinInt, Y0: math.MinInt, X1: math.MaxInt, Y1: math.MaxInt}, {X0: math.MaxInt, Y0: math.MaxInt, X1: math.MinInt, Y1: math.MinInt}}
	for i := range 4 {
		for _, n := range []int{20, 21, 40, border, border + 1, math.MaxInt - 63, math.MaxInt} {
			// Either end by either way is beyond the other one,
			if i > 1 {
				n = -n
			}
			l = append(l, about(i, n))
		}
		for _, n := range []int{border + 1, border + 64, math.MaxInt - 63, math.MaxInt} {
			// and too far out.
			if i < 2 {
				n = -n
			}
			l = append(l, about(i, n))
		}
	}
	return l
}

// about is a rectangle about the middle, of which the i-th number is n.
func about(i, n int) api.Rect {
	r := api.Rect{X0: -20, Y0: -20, X1: 20, Y1: 20}
	*[4]*int{&r.X0, &r.Y0, &r.X1, &r.Y1}[i] = n
	return r
}

func TestWrongRectangles(t *testing.T) {
	c := chance(77)
	for range 2000 {
		j := c.job(2500)
		j.width = c.from(1, broadest)
		for _, r := range wrongRects() {
			checkIn(t, j, r, nil)
		}
	}
}

// TestGreaterRectangles holds what a rectangle shows against what a greater one shows there.
func TestGreaterRectangles(t *testing.T) {
	c := chance(11)
	some := 0
	for i := range 3000 {
		j := c.job([]int{3000, 20000, place}[c.from(0, 2)])
		x, y := j.a.X/256, j.a.Y/256
		if i%2 == 0 {
			x, y = (j.a.X+j.b.X)/512, (j.a.Y+j.b.Y)/512
		}
		greater := c.rect(x, y, 80)
		l := j.in(greater)
		for range 5 {
			lesser := api.Rect{X0: c.from(greater.X0, greater.X1-1), Y0: c.from(greater.Y0, greater.Y1-1)}
			lesser.X1, lesser.Y1 = c.from(lesser.X0+1, greater.X1), c.from(lesser.Y0+1, greater.Y1)
			want := inside(l, lesser)
			some += min(1, len(want))
			if got := j.in(lesser); !slices.Equal(got, want) {
				t.Fatalf("P18.2: Line of %+v in %v, and not in %v: %s", j, lesser, greater, unlike(got, want))
			}
		}
	}
	if some < 1000 {
		t.Errorf("P18.2: just %d rectangles showed something", some)
	}
}

// covers is how many samples of each pixel of r the job covers, added to what is there.
func (j job) covers(r api.Rect, sum map[[2]int]int) {
	for _, f := range j.in(r) {
		sum[[2]int{f.X, f.Y}] += f.Cov
	}
}

// TestParts holds the covers of a line's parts, one behind the other, against the line's.
func TestParts(t *testing.T) {
	c := chance(13)
	for range 4000 {
		pieces := c.from(1, 12)
		far := []int{30, 200, 1000, place / 20}[c.from(0, 3)]
		x, y := c.from(-far, far), c.from(-far, far)
		if c.from(0, 3) == 0 {
			way := triples[c.from(0, len(triples)-1)]
			x, y = way[0]*32, way[1]*32
		}
		whole := job{c.win(2000), api.Win{}, []int{1, 5, c.from(1, 15), c.from(1, broadest)}[c.from(0, 3)]}
		if c.from(0, 1) == 0 {
			whole.a.X, whole.a.Y = 16, 16
		}
		whole.b = win(whole.a.X+x*pieces, whole.a.Y+y*pieces, 5)
		r := c.rect(0, 0, 30)
		want, got := map[[2]int]int{}, map[[2]int]int{}
		whole.covers(r, want)
		for part := whole; pieces > 0; part.a = part.b {
			steps := c.from(1, pieces)
			pieces -= steps
			part.b.X, part.b.Y = part.a.X+steps*x, part.a.Y+steps*y
			part.covers(r, got)
		}
		if !maps.Equal(got, want) {
			t.Fatalf("P18.2: Covers of %+v, by %d %d, in parts, in %v: %d pixels, and %d", whole, x, y, r, len(got), len(want))
		}
	}
}

// TestMoved holds lines that are moved by whole pixels, up to the bounds, against those that are not.
func TestMoved(t *testing.T) {
	c := chance(14)
	for range 3000 {
		j := c.job([]int{300, 3000}[c.from(0, 1)])
		x, y := c.from(-1<<20+9, 1<<20-9), c.from(-1<<20+9, 1<<20-9)
		if c.from(0, 1) == 0 {
			x, y = c.from(-2, 2), c.from(-2, 2)
		}
		away := j
		away.a.X, away.b.X, away.a.Y, away.b.Y = j.a.X+256*x, j.b.X+256*x, j.a.Y+256*y, j.b.Y+256*y
		if !Right(away.a, away.b, away.width) {
			continue
		}
		want := j.in(everywhere)
		for i := range want {
			want[i].X, want[i].Y = want[i].X+x, want[i].Y+y
		}
		if got := away.in(everywhere); !slices.Equal(got, want) {
			t.Fatalf("P18.2: Line of %+v, moved by %d %d: %s", j, x, y, unlike(got, want))
		}
		for range 9 {
			px, py := c.from(-15, 15), c.from(-15, 15)
			if got, want := away.cover(px+x, py+y), j.cover(px, py); got != want {
				t.Fatalf("P18.2: Cover of %+v at %d %d: %d, moved by %d %d: %d", j, px, py, want, x, y, got)
			}
		}
	}
}

// TestNewMemory spoils an answer, and asks again.
func TestNewMemory(t *testing.T) {
	j := job{win(100, 100, 5, 1, 2, 3, 4), win(2000, 900, 50, 40, 30, 20, 10), 3}
	first := j.in(everywhere)
	want := slices.Clone(first)
	for i := range first[:cap(first)] {
		first[:cap(first)][i] = api.Frag{X: -1, Y: -1, Z: -1, Cov: -1}
	}
	if again := j.in(everywhere); !slices.Equal(again, want) || len(want) == 0 {
		t.Errorf("P18.1: Line of %+v, once more: %s", j, unlike(again, want))
	}
}

// TestAnyNumbers asks for lines and pixels of numbers of all kinds: the calls must end, and not panic.
func TestAnyNumbers(t *testing.T) {
	c := chance(99)
	any := []int{math.MinInt, math.MinInt + 1, -1 << 32, -place, -1, 0, 1, 2, 64, 255, place, 1 << 32, 1 << 62, math.MaxInt - 1, math.MaxInt}
	for range 100000 {
		j := c.job(place)
		for _, b := range numbers() {
			if c.from(0, 20) == 0 {
				*b.of(&j) = any[c.from(0, len(any)-1)]
			}
		}
		x, y := any[c.from(0, len(any)-1)], any[c.from(0, len(any)-1)]
		j.in(api.Rect{X0: x, Y0: y, X1: x + c.from(0, 70), Y1: y + c.from(0, 70)})
		j.cover(x, y)
	}
}
