package slope

import (
	"fmt"
	"math"
	"math/big"
	"slices"
	"testing"

	"rastrum/api"
	"rastrum/tri"
)

const (
	place   = 1 << 28 // the greatest X and Y, written out
	border  = 1 << 22 // the greatest number of a rectangle
	outmost = 1 << 20 // the pixel in which the greatest X and Y lie
	deepest = 1<<24 - 1
	bound   = 1 << 25 // the greatest offset
	most    = 1 << 16 // the greatest factor
	units   = 1 << 24 // the greatest units
)

// everywhere is the greatest rectangle, and here one about the middle.
var (
	everywhere = api.Rect{X0: -border, Y0: -border, X1: border, Y1: border}
	here       = api.Rect{X0: -20, Y0: -20, X1: 20, Y1: 20}
)

// job is a triangle.
type job [3]api.Win

// look is what stands somewhere: a depth and a color.
type look struct {
	z int
	c api.Color
}

// numbers are all of a look: the depth and the color's four.
func (l look) numbers() [5]int {
	return [5]int{l.z, l.c[0], l.c[1], l.c[2], l.c[3]}
}

// of is what is looked at in a vertex.
func of(w api.Win) look {
	return look{w.Z, w.C}
}

// win is a vertex with that depth and color.
func win(x, y, z int, c ...int) api.Win {
	w := api.Win{X: x, Y: y, Z: z}
	copy(w.C[:], c)
	return w
}

// at is what At answers of the triangle at the pixel x, y.
func (j job) at(x, y int) look {
	z, c := At(j[0], j[1], j[2], x, y)
	return look{z, c}
}

// offset is what Offset answers of the triangle.
func (j job) offset(factor, units int) int {
	return Offset(j[0], j[1], j[2], factor, units)
}

// in is what Fill answers of the triangle in r.
func (j job) in(offset int, r api.Rect) []api.Frag {
	return Fill(j[0], j[1], j[2], offset, r)
}

// has tells whether the triangle has the pixel x, y.
func (j job) has(x, y int) bool {
	return tri.Has(j[0], j[1], j[2], x, y)
}

// spans are the triangle's pixels in r.
func (j job) spans(r api.Rect) []api.Span {
	return tri.Spans(j[0], j[1], j[2], r)
}

// orders is the triangle with each corner first, both ways around.
func (j job) orders() []job {
	a, b, c := j[0], j[1], j[2]
	return []job{{a, b, c}, {b, c, a}, {c, a, b}, {a, c, b}, {c, b, a}, {b, a, c}}
}

// moved is the triangle, so many units further right and up.
func (j job) moved(x, y int) job {
	for i := range j {
		j[i].X, j[i].Y = j[i].X+x, j[i].Y+y
	}
	return j
}

// deeper is the triangle, each of its corners so much deeper.
func (j job) deeper(z int) job {
	for i := range j {
		j[i].Z += z
	}
	return j
}

// floorDiv is n divided by d, which is 1 or more, rounded down.
func floorDiv(n, d int) int {
	rest := (n%d + d) % d
	return (n - rest) / d
}

// chance is a row of numbers that look like chance and are the same at each run.
type chance uint64

// from is the next number from least to greatest.
func (c *chance) from(least, greatest int) int {
	*c ^= *c << 13
	*c ^= *c >> 7
	*c ^= *c << 17
	return least + int(*c>>1)%(greatest-least+1)
}

// corner is a vertex at most so far from the middle, by X and by Y, at most so deep.
func (c *chance) corner(far, deep int) api.Win {
	w := api.Win{X: c.from(-far, far), Y: c.from(-far, far), Z: c.from(0, deep)}
	for i := range w.C {
		w.C[i] = []int{0, 255, c.from(0, 255), c.from(0, 255)}[c.from(0, 3)]
	}
	return w
}

// shapes is how many shapes of triangles there are to choose from.
const shapes = 9

// job is a triangle at most so far from the middle, of that shape.
func (c *chance) job(far, shape int) job {
	deep := []int{3, 300, 100000, deepest}[c.from(0, 3)]
	j := job{c.corner(far, deep), c.corner(far, deep), c.corner(far, deep)}
	first, second := c.from(0, 2), c.from(0, 2)
	switch shape {
	case 0: // a level side
		j[first].Y = j[(first+1)%3].Y
	case 1: // a level side and an upright one
		j[first].Y, j[second].X = j[(first+1)%3].Y, j[(second+1)%3].X
	case 2: // all corners in pixels' middles
		for i := range j {
			j[i].X, j[i].Y = j[i].X/256*256+128, j[i].Y/256*256+128
		}
	case 3: // all in middles, at edges and at corners of pixels, or a unit beside
		for i := range j {
			j[i].X, j[i].Y = j[i].X/128*128+c.from(-1, 1), j[i].Y/128*128+c.from(-1, 1)
		}
	case 4: // flat, or steep
		for i := range j {
			j[i].Y = j[0].Y + c.from(-300, 300)
			if second == 0 {
				j[i].X, j[i].Y = j[i].Y, j[i].X
			}
		}
	case 5: // two corners, or all, equally deep, and of one color
		j[first].Z, j[first].C = j[second].Z, j[second].C
	case 6: // each depth at one of the bounds
		for i := range j {
			j[i].Z = deepest * c.from(0, 1)
		}
	}
	for i := range j {
		j[i].X, j[i].Y = max(-place, min(j[i].X, place)), max(-place, min(j[i].Y, place))
	}
	return j
}

// any is a triangle at most so far from the middle, of any shape.
func (c *chance) any(far int) job {
	return c.job(far, c.from(0, shapes-1))
}

// great is a triangle with corners as far as may be, or about there.
func (c *chance) great() job {
	ends := []int{-place, 1 - place, 128 - place, place - 128, place - 1, place, -128, 0, 1, 128}
	j := c.any(place)
	for i := range j {
		if c.from(0, 2) > 0 {
			j[i].X = ends[c.from(0, len(ends)-1)]
		}
		if c.from(0, 2) > 0 {
			j[i].Y = ends[c.from(0, len(ends)-1)]
		}
	}
	return j
}

// near is a pixel about one of the triangle's corners or sides, or within it.
func (c *chance) near(j job) (int, int) {
	a, b, end := j[c.from(0, 2)], j[c.from(0, 2)], j[c.from(0, 2)]
	part := c.from(0, 1000)
	x, y := a.X+(b.X-a.X)*part/1000, a.Y+(b.Y-a.Y)*part/1000
	if c.from(0, 1) == 0 {
		part = c.from(0, 1000)
		x, y = x+(end.X-x)*part/1000, y+(end.Y-y)*part/1000
	}
	return floorDiv(x, 256), floorDiv(y, 256)
}

// holding is a rectangle that has the pixel x, y, and others no further from it than far.
func (c *chance) holding(x, y, far int) api.Rect {
	return api.Rect{X0: x - c.from(0, far), Y0: y - c.from(0, far), X1: x + 1 + c.from(0, far), Y1: y + 1 + c.from(0, far)}
}

func integer(n int) *big.Int {
	return big.NewInt(int64(n))
}

// product is a times b, without an end.
func product(a, b int) *big.Int {
	return new(big.Int).Mul(integer(a), integer(b))
}

// slowArea is twice a triangle's area, by chapter 20's words.
func slowArea(a, b, c api.Win) *big.Int {
	return new(big.Int).Sub(product(b.X-a.X, c.Y-a.Y), product(b.Y-a.Y, c.X-a.X))
}

// down is n divided by d, which may be below 0, but isn't 0, rounded down.
func down(n, d *big.Int) *big.Int {
	if d.Sign() < 0 {
		n, d = new(big.Int).Neg(n), new(big.Int).Neg(d)
	}
	// Of a divisor above nought, Div of math/big goes down.
	return new(big.Int).Div(n, d)
}

// slowAt is, by the chapter's words, what stands at the pixel x, y.
func (j job) slowAt(x, y int) look {
	m := api.Win{X: 256*x + 128, Y: 256*y + 128}
	a, b, c := j[0], j[1], j[2]
	whole := slowArea(a, b, c)
	parts := []*big.Int{slowArea(m, b, c), slowArea(a, m, c), slowArea(a, b, m)}
	var got [5]int
	for i := range got {
		sum := new(big.Int)
		for k, w := range j {
			sum.Add(sum, new(big.Int).Mul(integer(of(w).numbers()[i]), parts[k]))
		}
		got[i] = int(down(sum, whole).Int64())
	}
	return look{got[0], api.Color(got[1:])}
}

// rises is by how much a number of the corners rises in a unit to the right, and in one upward: that of the plane through all three.
func (j job) rises(p, q, r int) (right, up *big.Rat) {
	a, b, c := j[0], j[1], j[2]
	whole := slowArea(a, b, c)
	x := new(big.Int).Sub(product(q-p, c.Y-a.Y), product(r-p, b.Y-a.Y))
	y := new(big.Int).Sub(product(r-p, b.X-a.X), product(q-p, c.X-a.X))
	return new(big.Rat).SetFrac(x, whole), new(big.Rat).SetFrac(y, whole)
}

// planeAt is the same as slowAt, by another reckoning: of each number a plane goes through the corners.
func (j job) planeAt(x, y int) look {
	var got [5]int
	for i := range got {
		p, q, r := of(j[0]).numbers()[i], of(j[1]).numbers()[i], of(j[2]).numbers()[i]
		right, up := j.rises(p, q, r)
		right.Mul(right, new(big.Rat).SetInt64(int64(256*x+128-j[0].X)))
		up.Mul(up, new(big.Rat).SetInt64(int64(256*y+128-j[0].Y)))
		sum := right.Add(right, up)
		sum.Add(sum, new(big.Rat).SetInt64(int64(p)))
		got[i] = int(down(sum.Num(), sum.Denom()).Int64())
	}
	return look{got[0], api.Color(got[1:])}
}

// kept is an offset, brought among its bounds.
func kept(offset *big.Int) int {
	if offset.Cmp(integer(-bound)) < 0 {
		return -bound
	}
	if offset.Cmp(integer(bound)) > 0 {
		return bound
	}
	return int(offset.Int64())
}

// slowOffset is, by the chapter's words, the triangle's offset.
func (j job) slowOffset(factor, units int) int {
	a, b, c := j[0], j[1], j[2]
	area := slowArea(a, b, c)
	if area.Sign() == 0 {
		return kept(integer(units))
	}
	u := product(a.Z, b.Y-c.Y)
	u.Add(u, product(b.Z, c.Y-a.Y)).Add(u, product(c.Z, a.Y-b.Y)).Abs(u)
	v := product(a.Z, b.X-c.X)
	v.Add(v, product(b.Z, c.X-a.X)).Add(v, product(c.Z, a.X-b.X)).Abs(v)
	if u.Cmp(v) < 0 {
		u = v
	}
	sum := down(u.Mul(u, integer(factor)), area.Abs(area))
	return kept(sum.Add(sum, integer(units)))
}

// planeOffset is the same, by how much the plane through the corners' depths rises; of a triangle that has an area.
func (j job) planeOffset(factor, units int) int {
	right, up := j.rises(j[0].Z, j[1].Z, j[2].Z)
	right.Abs(right)
	up.Abs(up)
	if right.Cmp(up) < 0 {
		right = up
	}
	right.Mul(right, new(big.Rat).SetInt64(int64(factor)))
	sum := down(right.Num(), right.Denom())
	return kept(sum.Add(sum, integer(units)))
}

// about is the pixels of r that are no further from the triangle than two.
func (j job) about(r api.Rect) api.Rect {
	return api.Rect{
		X0: max(r.X0, floorDiv(min(j[0].X, j[1].X, j[2].X), 256)-2),
		Y0: max(r.Y0, floorDiv(min(j[0].Y, j[1].Y, j[2].Y), 256)-2),
		X1: min(r.X1, floorDiv(max(j[0].X, j[1].X, j[2].X), 256)+3),
		Y1: min(r.Y1, floorDiv(max(j[0].Y, j[1].Y, j[2].Y), 256)+3),
	}
}

// frag is the fragment of a pixel at which that stands, with the offset.
func frag(x, y, offset int, l look) api.Frag {
	return api.Frag{X: x, Y: y, Z: max(0, min(l.z+offset, deepest)), C: l.c, Cov: 64}
}

// slow is the fragments of the triangle in r: each pixel of r about it is asked.
func (j job) slow(offset int, r api.Rect) []api.Frag {
	r = j.about(r)
	var l []api.Frag
	for y := r.Y0; y < r.Y1; y++ {
		for x := r.X0; x < r.X1; x++ {
			if j.has(x, y) {
				l = append(l, frag(x, y, offset, j.slowAt(x, y)))
			}
		}
	}
	return l
}

// inside is of these fragments those whose pixels are in r.
func inside(l []api.Frag, r api.Rect) []api.Frag {
	var some []api.Frag
	for _, f := range l {
		if r.X0 <= f.X && f.X < r.X1 && r.Y0 <= f.Y && f.Y < r.Y1 {
			some = append(some, f)
		}
	}
	return some
}

// unlike tells where fragments are other ones than they must be, of which there may be many.
func unlike(got, want []api.Frag) string {
	i := 0
	for i < min(len(got), len(want)) && got[i] == want[i] {
		i++
	}
	return fmt.Sprintf("%d fragments, not %d; from %d on %v, not %v", len(got), len(want), i, got[i:min(i+3, len(got))], want[i:min(i+3, len(want))])
}

// checkAt holds what stands at a pixel that the triangle has against both reckonings.
func checkAt(t *testing.T, j job, x, y int) {
	t.Helper()
	want := j.slowAt(x, y)
	if other := j.planeAt(x, y); other != want {
		t.Errorf("P21.1: of %v at %d %d the chapter asks for %v, or %v", j, x, y, want, other)
	}
	if got := j.at(x, y); got != want {
		t.Errorf("P21.1: At of %v at %d %d: %v, not %v", j, x, y, got, want)
	}
}

// checkOffset holds what Offset answers against both reckonings.
func checkOffset(t *testing.T, j job, factor, units int) {
	t.Helper()
	want := j.slowOffset(factor, units)
	if slowArea(j[0], j[1], j[2]).Sign() != 0 && j.planeOffset(factor, units) != want {
		t.Errorf("P21.1: of %v, %d and %d the chapter asks for %d, or %d", j, factor, units, want, j.planeOffset(factor, units))
	}
	if got := j.offset(factor, units); got != want {
		t.Errorf("P21.1: Offset of %v, %d and %d: %d, not %d", j, factor, units, got, want)
	}
}

// checkIn holds what Fill answers in r against these.
func checkIn(t *testing.T, j job, offset int, r api.Rect, want []api.Frag) {
	t.Helper()
	if got := j.in(offset, r); !slices.Equal(got, want) {
		t.Errorf("P21.2: Fill of %v by %d in %v: %s", j, offset, r, unlike(got, want))
	}
}

func TestExample(t *testing.T) {
	for _, j := range (job{win(0, 0, 0), win(1024, 0, 1000), win(0, 1024, 0)}).orders() {
		if got := j.at(1, 1); got != (look{z: 375}) {
			t.Errorf("P21.1: At of %v at 1 1: %v", j, got)
		}
		if got := j.offset(256, 0); got != 250 {
			t.Errorf("P21.1: Offset of %v, 256 and 0: %d", j, got)
		}
	}
}

// stairs is a triangle whose corners lie in middles of pixels, four apart; it has the six pixels that stepped tells of.
func stairs() job {
	return job{win(128, 128, 0, 0, 255, 10, 200), win(1152, 128, 1000, 255, 0, 14, 200), win(128, 1152, 100, 0, 255, 18, 200)}
}

// stepped is the fragments of stairs, without an offset: a fourth of each number is added at each step.
func stepped() []api.Frag {
	return []api.Frag{
		{X: 0, Y: 1, Z: 25, C: api.Color{0, 255, 12, 200}, Cov: 64},
		{X: 1, Y: 1, Z: 275, C: api.Color{63, 191, 13, 200}, Cov: 64},
		{X: 2, Y: 1, Z: 525, C: api.Color{127, 127, 14, 200}, Cov: 64},
		{X: 0, Y: 2, Z: 50, C: api.Color{0, 255, 14, 200}, Cov: 64},
		{X: 1, Y: 2, Z: 300, C: api.Color{63, 191, 15, 200}, Cov: 64},
		{X: 0, Y: 3, Z: 75, C: api.Color{0, 255, 16, 200}, Cov: 64},
	}
}

func TestStairs(t *testing.T) {
	for _, away := range []int{0, 1, -1, 77, -3000, outmost - 9, 9 - outmost} {
		for _, j := range stairs().moved(256*away, -256*away).orders() {
			want := stepped()
			for i, f := range want {
				want[i].X, want[i].Y = f.X+away, f.Y-away
				if got := j.at(f.X+away, f.Y-away); got != (look{f.Z, f.C}) {
					t.Errorf("P21.1: At of %v at %d %d: %v, not %v", j, f.X+away, f.Y-away, got, f)
				}
			}
			checkIn(t, j, 0, everywhere, want)
		}
	}
}

// TestStairsOffset holds depths with an offset that is added, up to each of the bounds and beyond.
func TestStairsOffset(t *testing.T) {
	for _, o := range []struct {
		offset int
		want   [6]int
	}{
		{1, [6]int{26, 276, 526, 51, 301, 76}},
		{-1, [6]int{24, 274, 524, 49, 299, 74}},
		{-25, [6]int{0, 250, 500, 25, 275, 50}},
		{-26, [6]int{0, 249, 499, 24, 274, 49}},
		{-75, [6]int{0, 200, 450, 0, 225, 0}},
		{-76, [6]int{0, 199, 449, 0, 224, 0}},
		{-525, [6]int{}},
		{-526, [6]int{}},
		{-deepest, [6]int{}},
		{-bound, [6]int{}},
		{deepest - 526, [6]int{deepest - 501, deepest - 251, deepest - 1, deepest - 476, deepest - 226, deepest - 451}},
		{deepest - 525, [6]int{deepest - 500, deepest - 250, deepest, deepest - 475, deepest - 225, deepest - 450}},
		{deepest - 524, [6]int{deepest - 499, deepest - 249, deepest, deepest - 474, deepest - 224, deepest - 449}},
		{deepest - 275, [6]int{deepest - 250, deepest, deepest, deepest - 225, deepest, deepest - 200}},
		{deepest - 25, [6]int{deepest, deepest, deepest, deepest, deepest, deepest}},
		{deepest + 1, [6]int{deepest, deepest, deepest, deepest, deepest, deepest}},
		{bound, [6]int{deepest, deepest, deepest, deepest, deepest, deepest}},
	} {
		want := stepped()
		for i := range want {
			want[i].Z = o.want[i]
		}
		for _, j := range stairs().orders() {
			checkIn(t, j, o.offset, everywhere, want)
		}
	}
}

// TestStairsRectangles holds what rectangles of all kinds have of the six pixels.
func TestStairsRectangles(t *testing.T) {
	for x0 := -1; x0 < 5; x0++ {
		for x1 := x0 + 1; x1 < 6; x1++ {
			for y0 := -1; y0 < 5; y0++ {
				for y1 := y0 + 1; y1 < 6; y1++ {
					r := api.Rect{X0: x0, Y0: y0, X1: x1, Y1: y1}
					checkIn(t, stairs(), 0, r, inside(stepped(), r))
				}
			}
		}
	}
}

// TestAtWritten holds pixels of triangles that are written out.
func TestAtWritten(t *testing.T) {
	square := []api.Win{win(0, 0, 0, 0, 255), win(256, 0, 100, 255, 0), win(256, 256, 200, 0, 0, 255), win(0, 256, 300, 0, 0, 0, 255)}
	for _, c := range []struct {
		j    job
		x, y int
		want look
	}{
		// Of the corners a half, a quarter and a quarter; then a third of each; then all alike, and a third of one not.
		{job{square[0], win(512, 0, 9), win(0, 512, 70)}, 0, 0, look{19, api.Color{0, 127}}},
		{job{win(0, 0, 4), win(256, 128, 8, 255), win(0, 256, 12)}, 0, 0, look{8, api.Color{127}}},
		{job{win(-64, -64, 0), win(512, 128, 9), win(-64, 320, 3, 1, 2, 3, 4)}, 0, 0, look{4, api.Color{0, 0, 1, 1}}},
		{job{win(-256, 0, 1), win(512, 0, 1), win(128, 384, 1, 3, 2, 1, 0)}, 0, 0, look{1, api.Color{1, 0, 0, 0}}},
		{job{win(0, 0, 1), win(384, 0, 1), win(0, 384, 1)}, 0, 0, look{z: 1}},
		{job{win(0, 0, 1), win(384, 0, 1), win(0, 384, 0)}, 0, 0, look{}},
		{job{win(0, 0, 2), win(384, 0, 2), win(0, 384, 1)}, 0, 0, look{z: 1}},
		{job{win(0, 0, deepest), win(384, 0, deepest), win(0, 384, deepest-1)}, 0, 0, look{z: deepest - 1}},
		// A middle on a side that the triangle has: the third corner doesn't count.
		{job{square[0], square[1], square[2]}, 0, 0, look{100, api.Color{0, 127, 127}}},
		{job{square[3], square[1], square[2]}, 0, 0, look{200, api.Color{127, 0, 0, 127}}},
		{job{win(128, 0, 10), win(5000, 7000, 99, 255, 255, 255, 255), win(128, 512, 50, 8, 4)}, 0, 0, look{20, api.Color{2, 1}}},
		// A middle at a corner: the others don't count.
		{job{win(128, 128, 7, 1, 2, 3, 4), win(999, -999, 5, 9, 9, 9, 9), win(999, 128, 6, 8, 8, 8, 8)}, 0, 0, look{7, api.Color{1, 2, 3, 4}}},
		// Left of the middle and below it.
		{job{win(-512, -512, 0), win(0, -512, 1000, 255), win(-512, 0, 100, 0, 255)}, -2, -2, look{275, api.Color{63, 63}}},
		{job{win(-512, -512, 1000, 255), win(0, -512, 0), win(-512, 0, 100, 0, 255)}, -2, -2, look{525, api.Color{127, 63}}},
	} {
		for _, j := range c.j.orders() {
			if !j.has(c.x, c.y) {
				t.Errorf("P21.1: %v hasn't %d %d", j, c.x, c.y)
			}
			checkAt(t, j, c.x, c.y)
			if got := j.at(c.x, c.y); got != c.want {
				t.Errorf("P21.1: At of %v at %d %d: %v, not %v", j, c.x, c.y, got, c.want)
			}
		}
	}
}

// TestGreatWritten holds triangles as far as may be, written out: what stands there has more bits than an int, ahead of the quotient.
func TestGreatWritten(t *testing.T) {
	for _, c := range []struct {
		j    job
		x, y int
		want look
	}{
		// From corner to corner 2097152 pixels: the middle of the first one is half a pixel from the left and half a one from below.
		{job{win(-place, -place, 0), win(place, -place, deepest, 255), win(-place, place, 0, 0, 255)}, -outmost, -outmost, look{z: 3}},
		{job{win(-place, -place, 0), win(place, -place, deepest, 255), win(-place, place, 0, 0, 255)}, 1 - outmost, -outmost, look{z: 11}},
		{job{win(-place, -place, 0), win(place, -place, deepest, 255), win(-place, place, deepest, 0, 255)}, 1 - outmost, 1 - outmost, look{z: 23}},
		{job{win(-place, -place, 0), win(place, -place, deepest, 255), win(-place, place, 0, 0, 255)}, -1, -1, look{8388603, api.Color{127, 127}}},
		{job{win(-place, -place, deepest, 255), win(place, -place, 0), win(-place, place, 0, 0, 255)}, -1, -1, look{7, api.Color{0, 127}}},
		{job{win(-place, -place, deepest, 255), win(place, -place, deepest, 255), win(-place, place, deepest, 255)}, -1, -1, look{deepest, api.Color{255}}},
		{job{win(place, place, 0), win(-place, place, deepest, 255), win(place, -place, deepest, 255)}, outmost - 1, outmost - 1, look{z: 7}},
		{job{win(-place, -place, 0), win(place, -place, 0), win(0, place, deepest, 0, 0, 255, 255)}, -1, outmost - 2, look{16777203, api.Color{2: 254, 3: 254}}},
	} {
		for _, j := range c.j.orders() {
			if !j.has(c.x, c.y) {
				t.Errorf("P21.1: %v hasn't %d %d", j, c.x, c.y)
			}
			checkAt(t, j, c.x, c.y)
			if got := j.at(c.x, c.y); got != c.want {
				t.Errorf("P21.1: At of %v at %d %d: %v, not %v", j, c.x, c.y, got, c.want)
			}
			f := api.Frag{X: c.x, Y: c.y, Z: c.want.z, C: c.want.c, Cov: 64}
			checkIn(t, j, 0, api.Rect{X0: c.x, Y0: c.y, X1: c.x + 1, Y1: c.y + 1}, []api.Frag{f})
		}
	}
}

// TestNet holds all triangles between points of a net about the middle of 0 0.
func TestNet(t *testing.T) {
	net := []int{-128, -1, 0, 128, 129, 300, 384}
	var points []api.Win
	c := chance(3)
	for _, x := range net {
		for _, y := range net {
			w := c.corner(0, 9)
			w.X, w.Y = x, y
			points = append(points, w)
		}
	}
	n := 0
	for _, a := range points {
		for _, b := range points {
			for _, c := range points {
				j := job{a, b, c}
				want := j.slow(0, here)
				checkIn(t, j, 0, here, want)
				for _, f := range want {
					n++
					if got := j.at(f.X, f.Y); got != (look{f.Z, f.C}) {
						t.Errorf("P21.1: At of %v at %d %d: %v, not %v", j, f.X, f.Y, got, f)
					}
				}
				if t.Failed() {
					return
				}
			}
		}
	}
	if n < 30000 {
		t.Errorf("just %d pixels were had", n)
	}
}

// TestManyTriangles holds triangles of all shapes, as a whole and in some rectangles, by some offsets.
func TestManyTriangles(t *testing.T) {
	c := chance(20)
	n := 0
	for i := range 3000 {
		j := c.job([]int{300, 600, 3000}[c.from(0, 2)], i%shapes)
		offset := []int{0, 0, 1, -1, c.from(-300, 300), c.from(-deepest, deepest), c.from(-bound, bound), bound, -bound}[c.from(0, 8)]
		whole := j.slow(offset, everywhere)
		n += len(whole)
		checkIn(t, j, offset, everywhere, whole)
		for range 3 {
			x, y := c.near(j)
			r := c.holding(x, y, 6)
			checkIn(t, j, offset, r, inside(whole, r))
		}
		for range min(3, len(whole)) {
			f := whole[c.from(0, len(whole)-1)]
			checkAt(t, j, f.X, f.Y)
		}
		if t.Failed() {
			return
		}
	}
	if n < 30000 {
		t.Errorf("just %d pixels were had", n)
	}
}

// TestGreatTriangles holds triangles as far as may be, in rectangles that have few of their pixels.
func TestGreatTriangles(t *testing.T) {
	c := chance(22)
	n := 0
	for range 6000 {
		j := c.great()
		x, y := c.near(j)
		r := c.holding(x, y, 3)
		offset := c.from(-deepest, deepest) * c.from(0, 1)
		want := j.slow(offset, r)
		n += len(want)
		checkIn(t, j, offset, r, want)
		if len(want) > 0 {
			f := want[c.from(0, len(want)-1)]
			checkAt(t, j, f.X, f.Y)
		}
		if t.Failed() {
			return
		}
	}
	if n < 20000 {
		t.Errorf("just %d pixels were had", n)
	}
}

// around is the triangles around p that end at the sides between these corners.
func around(corners []api.Win, p api.Win) []job {
	var l []job
	for i, a := range corners {
		l = append(l, job{a, corners[(i+1)%len(corners)], p})
	}
	return l
}

// TestCorners holds middles that are corners, in triangles of all sizes: there stands what the corner has.
func TestCorners(t *testing.T) {
	c := chance(23)
	for range 3000 {
		x, y := c.from(-9, 9), c.from(-9, 9)
		p := c.corner(0, deepest)
		p.X, p.Y = 256*x+128, 256*y+128
		var corners []api.Win
		for _, way := range [][2]int{{1, 0}, {1, 1}, {0, 1}, {-1, 1}, {-1, 0}, {-1, -1}, {0, -1}, {1, -1}} {
			w := c.corner(0, deepest)
			far := []int{1, 2, 300, 3000, place - 3000}[c.from(0, 4)]
			w.X, w.Y = p.X+far*way[0], p.Y+far*way[1]
			corners = append(corners, w)
		}
		had := 0
		for _, j := range around(corners, p) {
			j = j.orders()[c.from(0, 5)]
			if !j.has(x, y) {
				continue
			}
			had++
			if got := j.at(x, y); got != of(p) {
				t.Fatalf("P21.1: At of %v at %d %d: %v", j, x, y, got)
			}
			checkIn(t, j, 0, api.Rect{X0: x, Y0: y, X1: x + 1, Y1: y + 1}, []api.Frag{frag(x, y, 0, of(p))})
		}
		if had != 1 {
			t.Fatalf("%d triangles about %v have its pixel", had, p)
		}
	}
}

// plain is a triangle whose depth rises by so much in each unit to the right, and in each upward; false, if it may not be that deep.
func (c *chance) plain(far, right, up int) (job, bool) {
	j := job{c.corner(far, 0), c.corner(far, 0), c.corner(far, 0)}
	for i, w := range j {
		j[i].Z = right*w.X + up*w.Y
	}
	least := min(j[0].Z, j[1].Z, j[2].Z)
	j = j.deeper(c.from(0, 999) - least)
	return j, max(j[0].Z, j[1].Z, j[2].Z) <= deepest && slowArea(j[0], j[1], j[2]).Sign() != 0
}

// TestPlain holds triangles whose depth changes by a whole number in each unit: nothing is rounded, and whatever their shape is, their
// steepness is the greater one of both.
func TestPlain(t *testing.T) {
	c := chance(24)
	rises := []int{0, 1, -1, 2, -2, 3, -3, 100, -100, 1000, -1000}
	n := 0
	for range 4000 {
		right, up := rises[c.from(0, len(rises)-1)], rises[c.from(0, len(rises)-1)]
		j, ok := c.plain([]int{300, 2000}[c.from(0, 1)], right, up)
		if !ok {
			continue
		}
		for _, f := range j.in(0, everywhere) {
			n++
			if want := j[0].Z + right*(256*f.X+128-j[0].X) + up*(256*f.Y+128-j[0].Y); f.Z != want {
				t.Fatalf("P21.2: Fill of %v: at %d %d %d, not %d", j, f.X, f.Y, f.Z, want)
			}
		}
		factor, more := c.from(-2000, 2000), c.from(-units, units)
		if got, want := j.offset(factor, more), factor*max(right, -right, up, -up)+more; got != want {
			t.Fatalf("P21.1: Offset of %v, %d and %d: %d, not %d", j, factor, more, got, want)
		}
	}
	if n < 30000 {
		t.Errorf("just %d pixels were had", n)
	}
}

// TestOffsetWritten holds offsets that are written out.
func TestOffsetWritten(t *testing.T) {
	little := job{win(0, 0, 0), win(1024, 0, 1), win(0, 1024, 0)}
	sharp := job{win(0, 0, 0), win(1, 0, deepest), win(0, 1, 0)}
	whole := job{win(-place, -place, 0), win(place, -place, deepest), win(-place, place, 0)}
	needle := job{win(-place, -place, 0), win(place, place-1, deepest), win(place-1, place-2, 0)}
	for _, c := range []struct {
		j             job
		factor, units int
		want          int
	}{
		// The depth rises or falls to the right more than upward, and the other way around, and as much.
		{job{win(0, 0, 900), win(256, 0, 1668), win(0, 256, 1412)}, 256, 0, 768},
		{job{win(0, 0, 900), win(256, 0, 132), win(0, 256, 1412)}, 256, 0, 768},
		{job{win(0, 0, 900), win(256, 0, 1412), win(0, 256, 1668)}, 256, 0, 768},
		{job{win(0, 0, 900), win(256, 0, 388), win(0, 256, 132)}, 256, 0, 768},
		{job{win(0, 0, 900), win(256, 0, 132), win(0, 256, 1668)}, 256, 0, 768},
		{job{win(0, 0, 900), win(256, 0, 900), win(0, 256, 644)}, 256, 0, 256},
		{job{win(0, 0, 900), win(256, 0, 900), win(0, 256, 900)}, most, 5, 5},
		{job{win(0, 0, 900), win(256, 0, 1668), win(0, 256, 1412)}, -256, 0, -768},
		{job{win(0, 0, 900), win(256, 0, 1668), win(0, 256, 1412)}, 0, 0, 0},
		{job{win(0, 0, 900), win(256, 0, 1668), win(0, 256, 1412)}, 0, -7, -7},
		{job{win(0, 0, 900), win(256, 0, 1668), win(0, 256, 1412)}, 1, 7, 10},
		{job{win(0, 0, 900), win(256, 0, 1668), win(0, 256, 1412)}, -1, 7, 4},
		// A 1024th in a unit, rounded down ahead of the units.
		{little, 0, 0, 0}, {little, 1, 0, 0}, {little, 1023, 0, 0}, {little, 1024, 0, 1}, {little, 1025, 0, 1}, {little, 2047, 0, 1},
		{little, 2048, 0, 2}, {little, -1, 0, -1}, {little, -1023, 0, -1}, {little, -1024, 0, -1}, {little, -1025, 0, -2}, {little, -2048, 0, -2},
		{little, -1, 1, 0}, {little, -1025, 1, -1}, {little, 1023, -1, -1}, {little, 1025, -3, -2}, {little, most, 0, 64}, {little, -most, 0, -64},
		{little, most, units, units + 64}, {little, -most, -units, -units - 64}, {little, most - 1, -units, 63 - units}, {little, 1 - most, units, units - 64},
		// By the bounds: of one and of two 16777215.
		{sharp, 1, 0, deepest}, {sharp, 1, units, bound - 1}, {sharp, 2, 0, bound - 2}, {sharp, 2, 1, bound - 1}, {sharp, 2, 2, bound},
		{sharp, 2, 3, bound}, {sharp, 2, units, bound}, {sharp, 3, 0, bound}, {sharp, 3, -units, 33554429}, {sharp, 4, -units, bound},
		{sharp, -1, -units, 1 - bound}, {sharp, -2, 0, 2 - bound}, {sharp, -2, -1, 1 - bound}, {sharp, -2, -2, -bound}, {sharp, -2, -3, -bound},
		{sharp, -2, -units, -bound}, {sharp, -3, 0, -bound}, {sharp, -3, units, -33554429}, {sharp, -4, units, -bound},
		{sharp, most, 0, bound}, {sharp, most, -units, bound}, {sharp, -most, 0, -bound}, {sharp, -most, units, -bound}, {sharp, 0, 9, 9},
		// The greatest area: just less than 2048, and the product has more bits than an int.
		{whole, most, 0, 2047}, {whole, -most, 0, -2048}, {whole, most, units, units + 2047}, {whole, 1, 0, 0}, {whole, -1, 0, -1},
		{whole, 1 << 13, 0, 255}, {whole, -1 << 13, 0, -256},
		// The least area, and the greatest steepness: the quotient has more bits, too.
		{needle, 1, 0, bound}, {needle, -1, 0, -bound}, {needle, most, -units, bound}, {needle, -most, units, -bound}, {needle, 0, 7, 7},
	} {
		for _, j := range c.j.orders() {
			checkOffset(t, j, c.factor, c.units)
			if got := j.offset(c.factor, c.units); got != c.want {
				t.Errorf("P21.1: Offset of %v, %d and %d: %d, not %d", j, c.factor, c.units, got, c.want)
			}
		}
	}
}

// factors and amounts are those at the bounds, about nought, and between.
func factors() []int {
	return []int{-most, 1 - most, -256, -255, -2, -1, 0, 1, 2, 255, 256, 1000, most - 1, most}
}

func amounts() []int {
	return []int{-units, 1 - units, -77, -1, 0, 1, 1000, units - 1, units}
}

// TestOffsetWithoutArea holds triangles of no area, of all depths: the units alone.
func TestOffsetWithoutArea(t *testing.T) {
	for _, j := range []job{
		{}, {win(5, 5, 0), win(5, 5, deepest), win(5, 5, 7)}, {win(0, 0, deepest), win(2, 4, 0), win(3, 6, 9)},
		{win(-place, -place, 0), win(0, 0, deepest), win(place, place, 0)}, {win(-place, 3, deepest), win(place, 3, 0), win(place, 3, deepest)},
		{win(9, place, 0), win(9, -place, deepest), win(9, 0, deepest)}, {win(-place, place, 0), win(place, -place, deepest), win(-place, place, 9)},
	} {
		for _, o := range j.orders() {
			for _, factor := range factors() {
				for _, more := range amounts() {
					checkOffset(t, o, factor, more)
					if got := o.offset(factor, more); got != more {
						t.Errorf("P21.1: Offset of %v, %d and %d: %d", o, factor, more, got)
					}
				}
			}
		}
	}
}

// TestOffsets holds offsets of triangles of all sizes and shapes.
func TestOffsets(t *testing.T) {
	c := chance(25)
	within := 0
	for i := range 20000 {
		far := []int{2, 300, 3000, 1 << 20, place}[c.from(0, 4)]
		j := c.job(far, i%shapes)
		if c.from(0, 4) == 0 {
			j = c.great()
		}
		factor, more := c.from(-most, most), c.from(-units, units)
		if c.from(0, 2) == 0 {
			factor = factors()[c.from(0, len(factors())-1)]
		}
		if c.from(0, 2) == 0 {
			more = amounts()[c.from(0, len(amounts())-1)]
		}
		checkOffset(t, j, factor, more)
		if got := j.offset(factor, more); -bound < got && got < bound {
			within++
		}
		if t.Failed() {
			return
		}
	}
	if within < 8000 {
		t.Errorf("just %d offsets were within the bounds", within)
	}
}

// checkRow holds the fragments of a long row: those that all fourths tell against both reckonings, and each against the one ahead of it.
func checkRow(t *testing.T, j job, l []api.Frag) {
	t.Helper()
	var rise [5]int
	for i := range rise {
		right, _ := j.rises(of(j[0]).numbers()[i], of(j[1]).numbers()[i], of(j[2]).numbers()[i])
		right.Mul(right, big.NewRat(256, 1))
		rise[i] = int(down(right.Num(), right.Denom()).Int64())
	}
	for i, f := range l {
		if i%4001 == 0 || i == len(l)-1 {
			if want := frag(f.X, f.Y, 0, j.planeAt(f.X, f.Y)); f != want {
				t.Fatalf("P21.2: Fill of %v: %v, not %v", j, f, want)
			}
		}
		if i == 0 {
			continue
		}
		now, ahead := look{f.Z, f.C}.numbers(), look{l[i-1].Z, l[i-1].C}.numbers()
		for k, n := range now {
			// What a pixel adds is rounded down, or 1 more.
			if more := n - ahead[k] - rise[k]; f.X != l[i-1].X+1 || f.Y != l[i-1].Y || more < 0 || more > 1 {
				t.Fatalf("P21.2: Fill of %v: %v right of %v", j, f, l[i-1])
			}
		}
	}
}

// TestLongRows holds rows as long as may be, and others of whose sums each is made of many ahead of it.
func TestLongRows(t *testing.T) {
	widest := job{win(-place, -place, 0, 0, 255, 7), win(place, -place, deepest, 255, 0, 9, 3), win(12345, place, 777, 3, 5, 0, 255)}
	row := api.Rect{X0: -border, Y0: -outmost, X1: border, Y1: 1 - outmost}
	l := widest.in(0, row)
	if len(l) != 2*outmost {
		t.Errorf("P21.2: Fill of %v in %v: %d fragments", widest, row, len(l))
	}
	checkRow(t, widest, l)
	c := chance(26)
	n := 0
	for range 40 {
		j := c.job(1<<25, 1+c.from(0, shapes-2))
		_, y := c.near(j)
		l := j.in(0, api.Rect{X0: -border, Y0: y, X1: border, Y1: y + 1})
		n += len(l)
		checkRow(t, j, l)
	}
	if n < 1000000 {
		t.Errorf("just %d pixels were had", n)
	}
}

// TestOneEverywhere holds triangles whose corners are all alike: so are their pixels, and nothing is steep.
func TestOneEverywhere(t *testing.T) {
	c := chance(27)
	n := 0
	for range 3000 {
		j := c.any([]int{300, 3000, place}[c.from(0, 2)])
		for i := range j {
			j[i].Z, j[i].C = j[0].Z, j[0].C
		}
		x, y := c.near(j)
		for _, f := range j.in(0, c.holding(x, y, 9)) {
			n++
			if f != frag(f.X, f.Y, 0, of(j[0])) {
				t.Fatalf("P21.3: Fill of %v: %v", j, f)
			}
		}
		if got := j.offset(c.from(-most, most), 5); got != 5 {
			t.Fatalf("P21.3: Offset of %v: %d", j, got)
		}
	}
	if n < 30000 {
		t.Errorf("just %d pixels were had", n)
	}
}

// TestAmongTheCorners holds what stands at pixels, most of them about corners and sides, against the least and the greatest of the
// corners' numbers.
func TestAmongTheCorners(t *testing.T) {
	c := chance(28)
	n := 0
	for range 6000 {
		j := c.any([]int{300, 3000, place}[c.from(0, 2)])
		if c.from(0, 3) == 0 {
			j = c.great()
		}
		x, y := c.near(j)
		for _, f := range j.in(0, c.holding(x, y, 3)) {
			n++
			for i, number := range (look{f.Z, f.C}).numbers() {
				p, q, r := of(j[0]).numbers()[i], of(j[1]).numbers()[i], of(j[2]).numbers()[i]
				if number < min(p, q, r) || number > max(p, q, r) {
					t.Fatalf("P21.3: Fill of %v: %v", j, f)
				}
			}
			if got := j.at(f.X, f.Y); got != (look{f.Z, f.C}) {
				t.Fatalf("P21.1: At of %v at %d %d: %v, not %v", j, f.X, f.Y, got, f)
			}
		}
	}
	if n < 20000 {
		t.Errorf("just %d pixels were had", n)
	}
}

// TestOrders holds triangles with each corner first, both ways around.
func TestOrders(t *testing.T) {
	c := chance(29)
	n := 0
	for i := range 4000 {
		j := c.job([]int{300, 3000, place}[c.from(0, 2)], i%shapes)
		x, y := c.near(j)
		r, offset := c.holding(x, y, 9), c.from(-999, 999)
		factor, more := c.from(-most, most), c.from(-units, units)
		want := j.in(offset, r)
		n += len(want)
		for _, o := range j.orders() {
			if got := o.in(offset, r); !slices.Equal(got, want) {
				t.Fatalf("P21.3: Fill of %v and %v in %v: %s", j, o, r, unlike(got, want))
			}
			if o.offset(factor, more) != j.offset(factor, more) {
				t.Fatalf("P21.3: Offset of %v and %v by %d and %d", j, o, factor, more)
			}
			if j.has(x, y) && o.at(x, y) != j.at(x, y) {
				t.Fatalf("P21.3: At of %v and %v and %d %d", j, o, x, y)
			}
		}
	}
	if n < 30000 {
		t.Errorf("just %d pixels were had", n)
	}
}

// TestDeeper holds triangles whose corners are all so much deeper against those that are not.
func TestDeeper(t *testing.T) {
	c := chance(30)
	n := 0
	for range 4000 {
		j := c.any([]int{300, 3000, place}[c.from(0, 2)])
		more := c.from(0, deepest-max(j[0].Z, j[1].Z, j[2].Z))
		deep := j.deeper(more)
		x, y := c.near(j)
		r := c.holding(x, y, 9)
		want := j.in(0, r)
		n += len(want)
		for i, f := range want {
			want[i].Z += more
			if got := deep.at(f.X, f.Y); got != (look{f.Z + more, f.C}) {
				t.Fatalf("P21.3: At of %v at %d %d: %v; %d deeper %v", j, f.X, f.Y, f, more, got)
			}
		}
		if got := deep.in(0, r); !slices.Equal(got, want) {
			t.Fatalf("P21.3: Fill of %v, %d deeper: %s", j, more, unlike(got, want))
		}
		if got := j.in(more, r); !slices.Equal(got, want) {
			t.Fatalf("P21.3: Fill of %v by %d: %s", j, more, unlike(got, want))
		}
		if got := deep.in(-more, r); !slices.Equal(got, j.in(0, r)) {
			t.Fatalf("P21.3: Fill of %v, %d deeper, by that less: %s", j, more, unlike(got, j.in(0, r)))
		}
		if factor := c.from(-most, most); deep.offset(factor, more) != j.offset(factor, more) {
			t.Fatalf("P21.3: Offset of %v by %d, %d deeper", j, factor, more)
		}
	}
	if n < 30000 {
		t.Errorf("just %d pixels were had", n)
	}
}

// TestMoved holds triangles that are moved by whole pixels, up to the bounds, against those that are not.
func TestMoved(t *testing.T) {
	c := chance(31)
	n := 0
	for range 3000 {
		j := c.any([]int{300, 3000}[c.from(0, 1)])
		x, y := c.from(12-outmost, outmost-12), c.from(12-outmost, outmost-12)
		away := j.moved(256*x, 256*y)
		want := j.in(7, everywhere)
		n += len(want)
		for i := range want {
			want[i].X, want[i].Y = want[i].X+x, want[i].Y+y
		}
		if got := away.in(7, everywhere); !slices.Equal(got, want) {
			t.Fatalf("P21.2: Fill of %v, moved by %d %d: %s", j, x, y, unlike(got, want))
		}
		if factor := c.from(-most, most); away.offset(factor, 3) != j.offset(factor, 3) {
			t.Fatalf("P21.1: Offset of %v by %d, moved by %d %d", j, factor, x, y)
		}
	}
	if n < 30000 {
		t.Errorf("just %d pixels were had", n)
	}
}

// TestSamePixels holds whole triangles, many of whose rows are long, against the pixels that they have.
func TestSamePixels(t *testing.T) {
	c := chance(32)
	for range 60 {
		j := c.any(40000)
		l := j.in(0, everywhere)
		i := 0
		for _, s := range j.spans(everywhere) {
			for x := s.X0; x < s.X1; x++ {
				if i >= len(l) || l[i].X != x || l[i].Y != s.Y || l[i].Cov != 64 {
					t.Fatalf("P21.2: Fill of %v: not the pixel %d %d at %d", j, x, s.Y, i)
				}
				i++
			}
		}
		if i != len(l) {
			t.Fatalf("P21.2: Fill of %v: %d fragments, not %d", j, len(l), i)
		}
	}
}

// TestGreaterRectangles holds what a rectangle shows against what a greater one shows there.
func TestGreaterRectangles(t *testing.T) {
	c := chance(33)
	for range 1500 {
		j := c.any([]int{3000, place}[c.from(0, 1)])
		x, y := c.near(j)
		greater := c.holding(x, y, 20)
		l := j.in(-3, greater)
		for range 5 {
			lesser := api.Rect{X0: c.from(greater.X0, greater.X1-1), Y0: c.from(greater.Y0, greater.Y1-1)}
			lesser.X1, lesser.Y1 = c.from(lesser.X0+1, greater.X1), c.from(lesser.Y0+1, greater.Y1)
			checkIn(t, j, -3, lesser, inside(l, lesser))
		}
	}
}

// TestRectanglesAtTheBounds holds rectangles of which numbers are at their bounds.
func TestRectanglesAtTheBounds(t *testing.T) {
	c := chance(34)
	for range 200 {
		j := c.any([]int{600, 3000}[c.from(0, 1)])
		whole := j.slow(0, everywhere)
		x, y := c.near(j)
		for _, r := range []api.Rect{
			{X0: -border, Y0: -border, X1: x, Y1: y}, {X0: x, Y0: y, X1: border, Y1: border}, {X0: x, Y0: -border, X1: border, Y1: y},
			{X0: -border, Y0: y, X1: x, Y1: border}, {X0: -border, Y0: y, X1: border, Y1: y + 1}, {X0: x, Y0: -border, X1: x + 1, Y1: border},
		} {
			checkIn(t, j, 0, r, inside(whole, r))
		}
		for _, r := range []api.Rect{{X0: -border, Y0: -border, X1: 1 - border, Y1: 1 - border}, {X0: border - 1, Y0: border - 1, X1: border, Y1: border}} {
			checkIn(t, c.great(), 0, r, nil)
		}
	}
}

// wrongRects is rectangles that may not be, that triangles about the middle would have pixels in, were it not for that.
func wrongRects() []api.Rect {
	l := []api.Rect{{}, {X0: 20, Y0: 20, X1: -20, Y1: -20}, {X0: 1, Y0: -20, X1: 1, Y1: 20}, {X0: -20, Y0: 1, X1: 20, Y1: 1},
		{X0: math.MinInt, Y0: math.MinInt, X1: math.MaxInt, Y1: math.MaxInt}, {X0: math.MaxInt, Y0: math.MaxInt, X1: math.MinInt, Y1: math.MinInt},
		{X0: -border - 1, Y0: -border - 1, X1: border + 1, Y1: border + 1}}
	for i := range 4 {
		for _, n := range []int{20, 21, 40, border, border + 1, math.MaxInt - 63, math.MaxInt} {
			// Either end by either way is beyond the other one,
			if i > 1 {
				n = -n
			}
			l = append(l, about(i, n))
		}
		for _, n := range []int{border + 1, border + 64, 1 << 32, 1 << 62, math.MaxInt - 63, math.MaxInt} {
			// and too far out.
			if i < 2 {
				n = -n
			}
			l = append(l, about(i, n))
		}
	}
	return l
}

// about is a rectangle about the middle, of which the i-th number is n.
func about(i, n int) api.Rect {
	r := here
	*[4]*int{&r.X0, &r.Y0, &r.X1, &r.Y1}[i] = n
	return r
}

func TestWrongRectangles(t *testing.T) {
	c := chance(35)
	l := []job{stairs(), {win(-place, -place, 5), win(place, -place, 6), win(0, place, 7)}, {}}
	for range 200 {
		l = append(l, c.any(3000), c.great())
	}
	for _, j := range l {
		for _, r := range wrongRects() {
			checkIn(t, j, c.from(-bound, bound), r, nil)
		}
	}
	// A number less, and it may be.
	for i, n := range []int{-border, -border, border, border} {
		checkIn(t, stairs(), 0, about(i, n), stepped())
	}
}

// TestWithoutArea holds triangles of no area: they have no fragments.
func TestWithoutArea(t *testing.T) {
	for _, j := range []job{
		{}, {win(128, 128, 5), win(128, 128, 5), win(128, 128, 5)}, {win(-512, 128, 5), win(512, 128, 6), win(0, 128, 7)},
		{win(128, -512, 5), win(128, 512, 6), win(128, 512, 7)}, {win(-place, -place, 5), win(place, place, 6), win(128, 128, 7)},
	} {
		for _, o := range j.orders() {
			checkIn(t, o, 0, everywhere, nil)
			checkIn(t, o, bound, here, nil)
		}
	}
}

// TestNewMemory spoils an answer, and asks again.
func TestNewMemory(t *testing.T) {
	first := stairs().in(0, here)
	for i := range first[:cap(first)] {
		first[:cap(first)][i] = api.Frag{X: -1, Y: -1, Z: -1, Cov: -1}
	}
	checkIn(t, stairs(), 0, here, stepped())
}

// TestAnyNumbers asks for what no chapter promises: the calls must end, and not panic.
func TestAnyNumbers(t *testing.T) {
	c := chance(36)
	any := []int{math.MinInt, math.MinInt + 1, -1 << 32, -place, -1, 0, 1, 2, 255, place, 1 << 32, 1 << 62, math.MaxInt - 1, math.MaxInt}
	for range 50000 {
		j := c.great()
		for i := range j {
			for _, n := range []*int{&j[i].X, &j[i].Y, &j[i].Z, &j[i].C[0], &j[i].C[3]} {
				if c.from(0, 9) == 0 {
					*n = any[c.from(0, len(any)-1)]
				}
			}
		}
		x, y := any[c.from(0, len(any)-1)], any[c.from(0, len(any)-1)]
		j.at(x, y)
		j.at(c.near(j))
		j.offset(x, y)
		j.in(x, api.Rect{X0: y, Y0: x, X1: y + c.from(0, 9), Y1: x + c.from(0, 9)})
	}
}
