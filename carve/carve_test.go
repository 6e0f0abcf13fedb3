package carve

import (
	"math"
	"math/big"
	"slices"
	"testing"

	"rastrum/api"
)

const (
	maxClip  = 1 << 36
	maxCoef  = 1 << 15
	maxVerts = 256
)

var (
	ahead = api.Side{Kind: 0}
	near  = api.Side{Kind: 1}
	far   = api.Side{Kind: 2}
	// nowhere is a side that every vertex is inside of, and on.
	nowhere = user(0, 0, 0, 0)
)

// at is a vertex without a color; on is one whose W is 1.
func at(x, y, z, w int) api.Vert { return api.Vert{X: x, Y: y, Z: z, W: w} }
func on(x, y int) api.Vert       { return at(x, y, 0, 1) }

// user is a side of Kind 3.
func user(p ...int) api.Side {
	return api.Side{Kind: 3, P: [4]int(p)}
}

// from is the side where X isn't below n, of a vertex whose W is 1; till is the one where it isn't above.
func from(n int) api.Side { return user(1, 0, 0, -n) }
func till(n int) api.Side { return user(-1, 0, 0, n) }

// above is the side where Y isn't below n, of a vertex whose W is 1; below is the one where it isn't above.
func above(n int) api.Side { return user(0, 1, 0, -n) }
func below(n int) api.Side { return user(0, -1, 0, n) }

// corners are vertices, with as many flags: a 1 is one that is set.
type corners struct {
	l []api.Vert
	e []bool
}

// with are the vertices l, with the flags that the digits tell.
func with(digits string, l ...api.Vert) corners {
	var e []bool
	for _, d := range digits {
		e = append(e, d == '1')
	}
	return corners{l, e}
}

// turned is the same polygon, begun k vertices later.
func (c corners) turned(k int) corners {
	if len(c.l) == 0 {
		return c
	}
	k %= len(c.l)
	return corners{slices.Concat(c.l[k:], c.l[:k]), slices.Concat(c.e[k:], c.e[:k])}
}

func (c corners) clone() corners { return corners{slices.Clone(c.l), slices.Clone(c.e)} }

func (c corners) same(d corners) bool {
	return slices.Equal(c.l, d.l) && slices.Equal(c.e, d.e)
}

// sameAround tells whether both have the same vertices with the same flags in the same order around.
func (c corners) sameAround(d corners) bool {
	if len(c.l) != len(d.l) {
		return false
	}
	for k := range c.l {
		if c.sameFrom(k, d) {
			return true
		}
	}
	return len(c.l) == 0
}

// sameFrom tells whether c, begun k vertices later, is d.
func (c corners) sameFrom(k int, d corners) bool {
	for i := range d.l {
		if n := (k + i) % len(c.l); c.l[n] != d.l[i] || c.e[n] != d.e[i] {
			return false
		}
	}
	return true
}

// chance is a row of numbers that look like chance and are the same at each run.
type chance uint64

func (c *chance) next() uint64 {
	*c ^= *c << 13
	*c ^= *c >> 7
	*c ^= *c << 17
	return uint64(*c)
}

// among is the next number from least to most.
func (c *chance) among(least, most int) int {
	return least + int(c.next()>>1)%(most-least+1)
}

// vert is a vertex that fits, its coordinates at most reach either way.
func (c *chance) vert(reach int) api.Vert {
	v := at(c.among(-reach, reach), c.among(-reach, reach), c.among(-reach, reach), c.among(-reach, reach))
	for i := range v.C {
		v.C[i] = c.among(0, 255)
	}
	return v
}

// polygon are n corners, and flags.
func (c *chance) polygon(n, reach int) corners {
	var p corners
	for range n {
		p.l = append(p.l, c.vert(reach))
		p.e = append(p.e, c.among(0, 1) == 1)
	}
	return p
}

// side is a side that may be, its coefficients at most reach either way.
func (c *chance) side(reach int) api.Side {
	s := api.Side{Kind: c.among(0, 3)}
	for i := range s.P {
		if s.Kind == 3 {
			s.P[i] = c.among(-reach, reach)
		}
	}
	return s
}

// wide is n as a number without an end.
func wide(n int) *big.Int { return big.NewInt(int64(n)) }

// slowDist is how far in v is (chapter 8), by numbers without an end.
func slowDist(s api.Side, v api.Vert) *big.Int {
	p := s.P
	switch s.Kind {
	case 0:
		return wide(v.W - 1)
	case 1:
		p = [4]int{0, 0, 1, 1}
	case 2:
		p = [4]int{0, 0, -1, 1}
	}
	sum := new(big.Int)
	for i, n := range [4]int{v.X, v.Y, v.Z, v.W} {
		sum.Add(sum, new(big.Int).Mul(wide(p[i]), wide(n)))
	}
	return sum
}

func slowInside(s api.Side, v api.Vert) bool { return slowDist(s, v).Sign() >= 0 }

// slowMeet is the vertex at which the way from in, which is inside s, to out, which isn't, meets s, by fractions.
func slowMeet(s api.Side, in, out api.Vert) api.Vert {
	n := slowDist(s, in)
	part := new(big.Rat).SetFrac(n, new(big.Int).Sub(n, slowDist(s, out)))
	number := func(a, b int) int {
		f := new(big.Rat).SetInt(wide(b - a))
		f.Mul(f, part).Add(f, new(big.Rat).SetInt(wide(a)))
		// Euclid's quotient by a divisor above 0 is rounded down.
		q, _ := new(big.Int).DivMod(f.Num(), f.Denom(), new(big.Int))
		return int(q.Int64())
	}
	v := at(number(in.X, out.X), number(in.Y, out.Y), number(in.Z, out.Z), number(in.W, out.W))
	for i := range v.C {
		v.C[i] = number(in.C[i], out.C[i])
	}
	return v
}

// slowCut is what comes of a cut, by the chapter's words.
func slowCut(c corners, s api.Side) corners {
	var come corners
	comes := func(v api.Vert, f bool) {
		come.l, come.e = append(come.l, v), append(come.e, f)
	}
	next := c.turned(1)
	for i, p := range c.l {
		q, f := next.l[i], c.e[i]
		if slowInside(s, p) {
			comes(p, f)
			if !slowInside(s, q) {
				comes(slowMeet(s, p, q), true)
			}
		} else if slowInside(s, q) {
			comes(slowMeet(s, q, p), f)
		}
	}
	if len(come.l) < 3 {
		return corners{}
	}
	return come
}

// slowCarve is what is left behind a cut at each side.
func slowCarve(c corners, sides []api.Side) corners {
	for _, s := range sides {
		c = slowCut(c, s)
	}
	return c
}

// cutOf is Cut's answer, held that it has as many flags as vertices.
func cutOf(t *testing.T, c corners, s api.Side) corners {
	t.Helper()
	before := c.clone()
	l, e := Cut(c.l, c.e, s)
	if len(l) != len(e) {
		t.Errorf("P10.1: Cut(%v, %v, %v): %d vertices, and %d flags", c.l, c.e, s, len(l), len(e))
	}
	if !c.same(before) {
		t.Errorf("P10.1: Cut changed what it was handed: %v, not %v", c, before)
	}
	return corners{l, e}
}

// carveOf is Carve's answer, held likewise, and that it is OK.
func carveOf(t *testing.T, c corners, sides []api.Side) corners {
	t.Helper()
	before, ahead := c.clone(), slices.Clone(sides)
	l, e, no := Carve(c.l, c.e, sides)
	if no != api.OK {
		t.Errorf("P10.1: Carve(%v, %v, %v): error %d", c.l, c.e, sides, no)
	}
	if len(l) != len(e) {
		t.Errorf("P10.1: Carve(%v, %v, %v): %d vertices, and %d flags", c.l, c.e, sides, len(l), len(e))
	}
	if !c.same(before) || !slices.Equal(sides, ahead) {
		t.Errorf("P10.1: Carve changed what it was handed: %v, %v, not %v, %v", c, sides, before, ahead)
	}
	return corners{l, e}
}

// checkCut holds what is left behind a cut at s, at whichever vertex the polygon begins.
func checkCut(t *testing.T, c corners, s api.Side, want corners) {
	t.Helper()
	if got := cutOf(t, c, s); !got.same(want) {
		t.Errorf("P10.1: Cut(%v, %v, %v): %v, not %v", c.l, c.e, s, got, want)
	}
	for k := range c.l {
		if got := cutOf(t, c.turned(k), s); !got.sameAround(want) {
			t.Errorf("P10.2: Cut(%v, %v, %v), begun %d later: %v, not %v", c.l, c.e, s, k, got, want)
		}
	}
	if n := len(c.l); n >= 3 && n <= maxVerts {
		checkCarve(t, c, []api.Side{s}, want)
	}
}

// checkCarve holds what is left behind cuts at the sides, at whichever vertex the polygon begins.
func checkCarve(t *testing.T, c corners, sides []api.Side, want corners) {
	t.Helper()
	if got := carveOf(t, c, sides); !got.same(want) {
		t.Errorf("P10.1: Carve(%v, %v, %v): %v, not %v", c.l, c.e, sides, got, want)
	}
	for k := range c.l {
		if got := carveOf(t, c.turned(k), sides); !got.sameAround(want) {
			t.Errorf("P10.2: Carve(%v, %v, %v), begun %d later: %v, not %v", c.l, c.e, sides, k, got, want)
		}
	}
}

// refused holds that Carve answers ErrArg, and nothing beside it.
func refused(t *testing.T, c corners, sides []api.Side) {
	t.Helper()
	if l, e, no := Carve(c.l, c.e, sides); no != api.ErrArg || len(l) != 0 || len(e) != 0 {
		t.Errorf("P10.1: Carve(%v, %v, %v): %v, %v, %d; not nothing, and ErrArg", c.l, c.e, sides, l, e, no)
	}
}

// nothing is what is left, where nothing is.
var nothing = corners{}

// red and blue, and what is half, and a third, on the way from the one to the other.
var (
	red   = api.Color{255, 0, 0, 10}
	blue  = api.Color{0, 0, 255, 11}
	half  = api.Color{127, 0, 127, 10}
	third = api.Color{170, 0, 85, 10}
)

func in(c api.Color, v api.Vert) api.Vert {
	v.C = c
	return v
}

func TestCutOfTriangles(t *testing.T) {
	a, b, c := in(red, on(0, 0)), in(blue, on(12, 0)), in(red, on(0, 12))
	cases := []struct {
		digits string
		s      api.Side
		want   corners
	}{
		// One is outside: four are left, of whose sides the one along the cut is an edge.
		{"000", till(6), with("0100", a, in(half, on(6, 0)), in(half, on(6, 6)), c)},
		{"010", till(6), with("0110", a, in(half, on(6, 0)), in(half, on(6, 6)), c)},
		{"101", till(6), with("1101", a, in(half, on(6, 0)), in(half, on(6, 6)), c)},
		{"111", till(6), with("1111", a, in(half, on(6, 0)), in(half, on(6, 6)), c)},
		{"000", till(4), with("0100", a, in(third, on(4, 0)), in(third, on(4, 8)), c)},
		// Two are: three are left. The first that comes is what the first vertex's way meets.
		{"000", from(6), with("001", in(half, on(6, 0)), b, in(half, on(6, 6)))},
		{"100", from(6), with("101", in(half, on(6, 0)), b, in(half, on(6, 6)))},
		{"010", from(6), with("011", in(half, on(6, 0)), b, in(half, on(6, 6)))},
		{"001", from(6), with("001", in(half, on(6, 0)), b, in(half, on(6, 6)))},
		// The last vertex's way to the first one, going out, and coming in.
		{"000", above(6), with("001", in(half, on(6, 6)), c, in(red, on(0, 6)))},
		{"001", above(6), with("011", in(half, on(6, 6)), c, in(red, on(0, 6)))},
		{"010", above(6), with("101", in(half, on(6, 6)), c, in(red, on(0, 6)))},
		{"000", below(6), with("0010", a, b, in(half, on(6, 6)), in(red, on(0, 6)))},
		{"001", below(6), with("0011", a, b, in(half, on(6, 6)), in(red, on(0, 6)))},
		// All are inside, or outside.
		{"000", till(12), with("000", a, b, c)},
		{"011", till(99), with("011", a, b, c)},
		{"111", from(13), nothing},
		{"111", till(-1), nothing},
	}
	for _, k := range cases {
		checkCut(t, with(k.digits, a, b, c), k.s, k.want)
	}
}

func TestCutOfEachKind(t *testing.T) {
	cases := []struct {
		s       api.Side
		c, want corners
	}{
		{ahead, with("010", at(0, 0, 0, 5), at(8, 0, 0, -3), at(0, 8, 0, 5)),
			with("0110", at(0, 0, 0, 5), at(4, 0, 0, 1), at(4, 4, 0, 1), at(0, 8, 0, 5))},
		{near, with("010", at(0, 0, 0, 10), at(9, 0, -40, 10), at(0, 9, 0, 10)),
			with("0110", at(0, 0, 0, 10), at(2, 0, -10, 10), at(2, 6, -10, 10), at(0, 9, 0, 10))},
		{far, with("010", at(0, 0, 0, 10), at(9, 0, 40, 10), at(0, 9, 0, 10)),
			with("0110", at(0, 0, 0, 10), at(2, 0, 10, 10), at(2, 6, 10, 10), at(0, 9, 0, 10))},
		{user(1, 2, 3, 4), with("010", at(0, 0, 0, 10), at(-70, -5, 0, 10), at(0, 0, 10, 10)),
			with("0110", at(0, 0, 0, 10), at(-70, -5, 0, 10), at(-70, -5, 0, 10), at(0, 0, 10, 10))},
	}
	// The last one's second vertex is at -40: its ways meet the side at what lies at 40 of 80 and at 70 of 110.
	last := &cases[3].want
	last.l[1], last.l[2] = at(-35, -3, 0, 10), at(-45, -4, 3, 10)
	for _, k := range cases {
		checkCut(t, k.c, k.s, k.want)
	}
}

// TestCutOfQuads has one vertex outside, two next to one another, two across, and three.
func TestCutOfQuads(t *testing.T) {
	a, b, c, d := on(0, 0), on(8, 0), on(8, 8), on(0, 8)
	quad := with("0101", a, b, c, d)
	checkCut(t, quad, user(-1, -1, 0, 12), with("01101", a, b, on(8, 4), on(4, 8), d))
	checkCut(t, quad, user(1, 1, 0, -12), with("101", on(8, 4), c, on(4, 8)))
	checkCut(t, quad, till(2), with("0101", a, on(2, 0), on(2, 8), d))
	checkCut(t, quad, from(2), with("0101", on(2, 0), b, c, on(2, 8)))
	checkCut(t, quad, above(2), with("1011", on(8, 2), c, d, on(0, 2)))
	checkCut(t, quad, below(2), with("0111", a, b, on(8, 2), on(0, 2)))
	// Its sides cross: each second vertex is outside, so that two parts are left, hung together.
	star := with("0101", on(0, 0), on(8, 8), on(4, 0), on(0, 8))
	checkCut(t, star, below(4), with("011011", on(0, 0), on(4, 4), on(6, 4), on(4, 0), on(2, 4), on(0, 4)))
	checkCut(t, star, above(4), with("011011", on(4, 4), on(8, 8), on(6, 4), on(2, 4), on(0, 8), on(0, 4)))
}

// TestCutOnTheSide has vertices that lie on the side: they are inside, and are what their ways out meet it at, too.
func TestCutOnTheSide(t *testing.T) {
	east, north, west, south := on(6, 0), on(0, 6), on(-6, 0), on(0, -6)
	// One behind from in to out, and one from out to in.
	diamond := with("0000", south, east, north, west)
	checkCut(t, diamond, from(0), with("00010", south, east, north, north, south))
	checkCut(t, with("1111", south, east, north, west), from(0), with("11111", south, east, north, north, south))
	// Both beside it are inside, or outside.
	checkCut(t, diamond, from(-6), diamond)
	checkCut(t, diamond, from(6), with("001", east, east, east))
	checkCut(t, diamond, from(7), nothing)
	// Two next to one another, with the rest outside, or inside; a way along the side.
	triangle := with("000", on(0, 0), on(0, 9), on(9, 0))
	checkCut(t, triangle, till(0), with("0010", on(0, 0), on(0, 9), on(0, 9), on(0, 0)))
	checkCut(t, triangle, from(0), triangle)
	checkCut(t, triangle, till(-1), nothing)
	checkCut(t, with("110", on(0, 0), on(0, 9), on(9, 0)), till(0), with("1110", on(0, 0), on(0, 9), on(0, 9), on(0, 0)))
	// All.
	line := with("0100", on(3, 0), on(3, 5), on(3, 9), on(3, -2))
	checkCut(t, line, from(3), line)
	checkCut(t, line, till(3), line)
	checkCut(t, line, from(4), nothing)
	// One lies on it, one is inside, one is outside.
	checkCut(t, with("000", on(0, 0), on(6, 6), on(-6, 6)), from(0), with("0010", on(0, 0), on(6, 6), on(0, 6), on(0, 0)))
	checkCut(t, with("000", on(0, 0), on(-6, 6), on(6, 6)), from(0), with("0100", on(0, 0), on(0, 0), on(0, 6), on(6, 6)))
}

// TestCutOfFew has fewer vertices than a polygon: what comes of them is told by the same words.
func TestCutOfFew(t *testing.T) {
	a, b := at(0, 0, 0, 5), at(8, 0, 0, -3)
	checkCut(t, nothing, ahead, nothing)
	checkCut(t, corners{[]api.Vert{}, []bool{}}, ahead, nothing)
	checkCut(t, with("1", a), ahead, nothing)
	checkCut(t, with("1", b), ahead, nothing)
	checkCut(t, with("11", a, a), ahead, nothing)
	checkCut(t, with("11", b, b), ahead, nothing)
	checkCut(t, with("00", a, b), ahead, with("010", a, at(4, 0, 0, 1), at(4, 0, 0, 1)))
	checkCut(t, with("01", a, b), ahead, with("011", a, at(4, 0, 0, 1), at(4, 0, 0, 1)))
	checkCut(t, with("10", b, a), ahead, with("101", at(4, 0, 0, 1), a, at(4, 0, 0, 1)))
}

// TestCutOfAllPatterns has each vertex inside, on the side, and outside, in every way of up to six, for each Kind.
func TestCutOfAllPatterns(t *testing.T) {
	kinds := []struct {
		s  api.Side
		at func(x, d int) api.Vert
	}{
		{ahead, func(x, d int) api.Vert { return at(x, 2*x, 900, d+1) }},
		{near, func(x, d int) api.Vert { return at(x, 2*x, d-10, 10) }},
		{far, func(x, d int) api.Vert { return at(x, 2*x, 10-d, 10) }},
		{user(2, 1, -1, -3), func(x, d int) api.Vert { return at(x, d+3*x+9, 5*x, 3) }},
	}
	for _, k := range kinds {
		patterns := 1
		for n := range 7 {
			for pattern := range patterns {
				var c corners
				for i, rest := 0, pattern; i < n; i, rest = i+1, rest/3 {
					v := in(api.Color{i, 255 - i, 40 * i, 7}, k.at(100*i-250, (rest%3-1)*(3+i*i)))
					c.l, c.e = append(c.l, v), append(c.e, (pattern*7+i*i)/3%2 == 0)
				}
				checkCut(t, c, k.s, slowCut(c, k.s))
			}
			patterns *= 3
		}
	}
}

// ring are n vertices around, of which those with numbers that isOut names are at -3 and the others at 5.
func ring(n int, isOut func(i int) bool) corners {
	var c corners
	for i := range n {
		w := 5
		if isOut(i) {
			w = -3
		}
		c.l, c.e = append(c.l, in(api.Color{i % 256, 1, 2, 3}, at(i, i*i, -i, w))), append(c.e, i%3 == 0)
	}
	return c
}

// TestCarveOfMany has 255 and 256 vertices, of which one is outside, some next to one another, each second, all but one.
func TestCarveOfMany(t *testing.T) {
	for _, n := range []int{255, maxVerts} {
		outside := []func(i int) bool{
			func(i int) bool { return false },
			func(i int) bool { return i == 100 },
			func(i int) bool { return i == n-1 },
			func(i int) bool { return i == 0 },
			func(i int) bool { return i >= 50 && i < 200 },
			func(i int) bool { return i < 50 || i >= 200 },
			func(i int) bool { return i%2 == 1 },
			func(i int) bool { return i%2 == 0 },
			func(i int) bool { return i != 77 },
			func(i int) bool { return i != 0 },
			func(i int) bool { return i != n-1 },
			func(i int) bool { return true },
		}
		left := []int{n, n + 1, n + 1, n + 1, n - 148, 152, n + n/2, n + n/2 - n%2, 3, 3, 3, 0}
		for i, f := range outside {
			c := ring(n, f)
			want := slowCut(c, ahead)
			if len(want.l) != left[i] {
				t.Errorf("P10.1: of %d vertices by the rule %d: %d are to be left, not %d", n, i, len(want.l), left[i])
			}
			checkCut(t, c, ahead, want)
		}
	}
}

// square is the one from -n to n, with flags.
func square(n int, digits string) corners {
	return with(digits, on(-n, -n), on(n, -n), on(n, n), on(-n, n))
}

// TestCarveAtSeveralSides has each cut made of what the one ahead of it leaves, in order.
func TestCarveAtSeveralSides(t *testing.T) {
	whole := square(10, "0000")
	checkCarve(t, whole, []api.Side{from(-4), till(5)}, with("0101", on(-4, -10), on(5, -10), on(5, 10), on(-4, 10)))
	checkCarve(t, whole, []api.Side{from(-4), till(5), above(-6), below(7)}, with("1111", on(5, -6), on(5, 7), on(-4, 7), on(-4, -6)))
	checkCarve(t, whole, []api.Side{from(-4), till(-4)}, with("0101", on(-4, -10), on(-4, -10), on(-4, 10), on(-4, 10)))
	checkCarve(t, whole, []api.Side{from(-4), till(-5)}, nothing)
	checkCarve(t, whole, []api.Side{from(11), till(5)}, nothing)
	// Where the corner is that the second side cuts off hangs on where the first one rounded it to.
	slope := with("000", on(0, 0), on(7, 1), on(0, 50))
	first, second := user(-2, 0, 0, 7), user(0, -3, 0, 76)
	one := slowCarve(slope, []api.Side{first, second})
	two := slowCarve(slope, []api.Side{second, first})
	if one.sameAround(two) {
		t.Errorf("P10.1: the order of %v and %v tells nothing of %v", first, second, slope)
	}
	checkCarve(t, slope, []api.Side{first, second}, one)
	checkCarve(t, slope, []api.Side{second, first}, two)
	// A flag that a cut sets is what a further cut hands on.
	checkCarve(t, with("000", on(0, 0), on(8, 0), on(0, 8)), []api.Side{till(4), below(2)},
		with("0110", on(0, 0), on(4, 0), on(4, 2), on(0, 2)))
	checkCarve(t, with("000", on(0, 0), on(8, 0), on(0, 8)), []api.Side{below(4), till(2)},
		with("0110", on(0, 0), on(2, 0), on(2, 4), on(0, 4)))
}

// TestCarveAtNoSidesAndNine has as few sides as may be, and as many.
func TestCarveAtNoSidesAndNine(t *testing.T) {
	for _, c := range []corners{square(10, "0101"), square(10, "0000"), with("101", on(1, 2), on(3, 4), on(3, 4)), ring(maxVerts, func(i int) bool { return i%2 == 0 })} {
		checkCarve(t, c, nil, c)
		checkCarve(t, c, []api.Side{}, c)
		checkCarve(t, c, slices.Repeat([]api.Side{nowhere}, 9), c)
	}
	nine := []api.Side{ahead, near, far, from(-9), till(8), above(-7), below(6), user(-1, -1, 0, 9), user(1, 1, 0, 9)}
	c := square(10, "0000")
	checkCarve(t, c, nine, with("011111", on(8, 1), on(3, 6), on(-9, 6), on(-9, 0), on(-2, -7), on(8, -7)).turned(5).allEdges())
	// Each of the nine counts, wherever it stands.
	for i := range nine {
		l := slices.Clone(nine)
		for _, s := range []api.Side{user(3, 1, 0, 0), user(-1, 2, 0, 3), above(1)} {
			l[i] = s
			want := slowCarve(c, l)
			if len(want.l) == 0 || want.sameAround(slowCarve(c, slices.Delete(slices.Clone(l), i, i+1))) {
				t.Errorf("P10.1: %v as the side %d of %v tells nothing", s, i, nine)
			}
			checkCarve(t, c, l, want)
		}
		l[i] = from(11)
		checkCarve(t, c, l, nothing)
	}
}

// allEdges is the same with all flags set.
func (c corners) allEdges() corners {
	return corners{c.l, slices.Repeat([]bool{true}, len(c.l))}
}

// TestCarveOfTheGreatest has coordinates and coefficients at their bounds.
func TestCarveOfTheGreatest(t *testing.T) {
	signs := func(bits, n int) [4]int {
		l := [4]int{n, n, n, n}
		for i := range l {
			if bits>>i&1 != 0 {
				l[i] = -n
			}
		}
		return l
	}
	sides := []api.Side{ahead, near, far}
	var ends []api.Vert
	for bits := range 16 {
		sides = append(sides, api.Side{Kind: 3, P: signs(bits, maxCoef)})
		p := signs(bits, maxClip)
		v := at(p[0], p[1], p[2], p[3])
		v.C = api.Color{255 * (bits & 1), 255, 0, 255 * (bits >> 3)}
		ends = append(ends, v)
	}
	all := corners{ends, slices.Repeat([]bool{true, false}, 8)}
	for i, s := range sides {
		checkCut(t, all, s, slowCut(all, s))
		for k := range sides {
			l := []api.Side{s, sides[k], sides[(i+k)%len(sides)]}
			checkCarve(t, all, l, slowCarve(all, l))
			for n := range ends {
				c := corners{[]api.Vert{ends[i%16], ends[k%16], ends[n], ends[(i+2*k+n)%16]}, all.e[n%2 : n%2+4]}
				checkCarve(t, c, l, slowCarve(c, l))
			}
		}
	}
	// What is divided is above what 64 bits hold.
	top, bottom := at(maxClip, maxClip, maxClip, maxClip), at(-maxClip, -maxClip, -maxClip, -maxClip)
	level := at(maxClip, -maxClip, maxClip, -maxClip)
	whole := user(maxCoef, maxCoef, maxCoef, maxCoef)
	checkCut(t, with("000", top, bottom, level), whole, with("0100", top, at(0, 0, 0, 0), level, level))
}

// TestCarveRefusesNumbersOfVertices has too few vertices, too many, and other numbers of flags.
func TestCarveRefusesNumbersOfVertices(t *testing.T) {
	a := on(1, 2)
	lists := [][]api.Side{nil, {nowhere}, {ahead, near, far}, {from(5)}, {from(5), till(4)}}
	for _, l := range lists {
		for _, n := range []int{0, 1, 2, maxVerts + 1, maxVerts + 2, 1000} {
			refused(t, corners{slices.Repeat([]api.Vert{a}, n), make([]bool, n)}, l)
		}
		for _, n := range []int{3, 4, 5, 100, maxVerts - 1, maxVerts} {
			v := slices.Repeat([]api.Vert{a}, n)
			for _, flags := range []int{0, n - 1, n + 1, 2 * n} {
				refused(t, corners{v, make([]bool, flags)}, l)
			}
			checkCarve(t, corners{v, make([]bool, n)}, l, slowCarve(corners{v, make([]bool, n)}, l))
		}
		refused(t, corners{nil, make([]bool, 3)}, l)
		refused(t, corners{slices.Repeat([]api.Vert{a}, maxVerts+1), make([]bool, maxVerts)}, l)
		refused(t, corners{slices.Repeat([]api.Vert{a}, 2), make([]bool, 3)}, l)
	}
}

// misfits are vertices that don't fit, each by one number.
func misfits() []api.Vert {
	var l []api.Vert
	for _, n := range []int{maxClip + 1, -maxClip - 1, 1 << 40, math.MaxInt, math.MinInt} {
		l = append(l, at(n, 0, 0, 1), at(0, n, 0, 1), at(0, 0, n, 1), at(0, 0, 0, n))
	}
	for _, n := range []int{-1, 256, math.MaxInt, math.MinInt} {
		for i := range 4 {
			v := on(0, 0)
			v.C[i] = n
			l = append(l, v)
		}
	}
	return l
}

// wrongSides are sides that may not be, each by one number.
func wrongSides() []api.Side {
	l := []api.Side{{Kind: -1}, {Kind: 4}, {Kind: math.MaxInt}, {Kind: math.MinInt}}
	for i := range 4 {
		for kind := range 3 {
			for _, n := range []int{1, -1} {
				s := api.Side{Kind: kind}
				s.P[i] = n
				l = append(l, s)
			}
		}
		for _, n := range []int{maxCoef + 1, -maxCoef - 1, math.MaxInt, math.MinInt} {
			s := nowhere
			s.P[i] = n
			l = append(l, s)
		}
	}
	return l
}

// TestCarveRefusesWrongVertices has one that doesn't fit at each place, also where nothing would be left anyway.
func TestCarveRefusesWrongVertices(t *testing.T) {
	lists := [][]api.Side{nil, {ahead, near, far}, {from(11)}, {from(5), till(4), nowhere}, slices.Repeat([]api.Side{nowhere}, 9)}
	for _, c := range []corners{square(10, "0101"), square(10, "1111"), with("010", on(0, 0), on(9, 0), on(0, 9)), ring(maxVerts, func(i int) bool { return i == 9 })} {
		for _, v := range misfits() {
			for _, i := range []int{0, 1, len(c.l) / 2, len(c.l) - 1} {
				for _, l := range lists {
					wrong := c.clone()
					wrong.l[i] = v
					refused(t, wrong, l)
				}
			}
		}
	}
	// At the bounds themselves they fit.
	c := square(10, "0101")
	for i := range c.l {
		for _, n := range []int{maxClip, -maxClip} {
			for _, v := range []api.Vert{at(n, 0, 0, 1), at(0, n, 0, 1), at(0, 0, n, 1), at(0, 0, 0, n)} {
				right := c.clone()
				right.l[i] = v
				for _, l := range lists {
					checkCarve(t, right, l, slowCarve(right, l))
				}
			}
		}
	}
}

// TestCarveRefusesWrongSides has one that may not be at each place, also where nothing would be left anyway.
func TestCarveRefusesWrongSides(t *testing.T) {
	for _, c := range []corners{square(10, "0101"), with("010", on(20, 0), on(29, 0), on(20, 9))} {
		for _, s := range wrongSides() {
			refused(t, c, []api.Side{s})
			for i := range 9 {
				for _, other := range []api.Side{nowhere, ahead, from(15), from(40)} {
					l := slices.Repeat([]api.Side{other}, 9)
					l[i] = s
					refused(t, c, l)
				}
			}
			refused(t, c, []api.Side{ahead, near, far, from(40), s})
			refused(t, c, []api.Side{s, ahead, from(40)})
		}
		for _, s := range []api.Side{nowhere, ahead, from(15), from(40)} {
			refused(t, c, slices.Repeat([]api.Side{s}, 10))
			refused(t, c, slices.Repeat([]api.Side{s}, 11))
			refused(t, c, append(slices.Repeat([]api.Side{s}, 9), from(40)))
		}
	}
}

// TestCarveByChance holds all by chance, of few numbers and of many.
func TestCarveByChance(t *testing.T) {
	c, gone, whole, parts, many := chance(31), 0, 0, 0, 0
	for i := range 10000 {
		n, reach, coef := c.among(3, 9), maxClip>>(i%37), maxCoef>>(i%16)
		if i%4 == 0 {
			// Few numbers, so that many vertices lie on a side.
			reach, coef = 4, 1
		}
		if i%100 == 1 {
			n = c.among(10, 100)
		}
		p := c.polygon(n, reach)
		if i%5 == 0 {
			p = p.allEdges()
		}
		var l []api.Side
		for range c.among(0, 9) * c.among(1, 9) / 9 {
			s := c.side(coef)
			// A side that leaves nothing is mostly turned about.
			if q := slowCut(p, s); len(q.l) == 0 && s.Kind == 3 && c.among(0, 9) > 0 {
				for k := range s.P {
					s.P[k] = -s.P[k]
				}
			}
			l = append(l, s)
		}
		want := slowCarve(p, l)
		checkCarve(t, p, l, want)
		if i%5 == 0 && slices.Contains(carveOf(t, p, l).e, false) {
			t.Errorf("P10.2: Carve(%v, %v, %v): all sides were edges, and don't stay so", p.l, p.e, l)
		}
		switch {
		case len(want.l) == 0:
			gone++
		case want.same(p):
			whole++
		case len(want.l) > len(p.l)+1:
			many++
		default:
			parts++
		}
	}
	for i, n := range []int{gone, whole, parts, many} {
		if n < 500 {
			t.Errorf("of sort %d there were %d: too few to tell anything", i, n)
		}
	}
}

// TestCarveLeavesWhatIsInside has polygons inside all sides, and ones that are so up to one, which they are all outside of.
func TestCarveLeavesWhatIsInside(t *testing.T) {
	c, many, gone := chance(37), 0, 0
	for i := range 3000 {
		p := c.polygon(c.among(3, 6), maxClip>>(i%37))
		var l []api.Side
		var out []api.Side
		for range 40 {
			s := c.side(maxCoef >> (i % 16))
			switch left := slowCut(p, s); {
			case len(left.l) == 0:
				out = append(out, s)
			case left.same(p) && len(l) < 8:
				l = append(l, s)
			}
		}
		if len(l) > 1 {
			many++
		}
		checkCarve(t, p, l, p)
		if len(out) > 0 && len(l) > 1 {
			gone++
			for k := range len(l) + 1 {
				checkCarve(t, p, slices.Insert(slices.Clone(l), k, out[0]), nothing)
			}
		}
	}
	if many < 500 || gone < 300 {
		t.Errorf("there were %d polygons inside two sides or more, and %d that were gone: too few to tell anything", many, gone)
	}
}

// roomy is a copy of l with spare room behind it, in which filler stands.
func roomy[T any](l []T, filler T) []T {
	return slices.Concat(l, []T{filler, filler, filler, filler})[:len(l)]
}

// TestMemory has what was handed in, with its spare room, looked at, and it and what was answered written over.
func TestMemory(t *testing.T) {
	c := square(10, "0110")
	stone := at(1, 2, 3, 99)
	lists := [][]api.Side{nil, {nowhere}, {from(-4)}, {till(5), from(0), above(2)}, {from(11)}, {ahead, near, far, till(10)}}
	for _, l := range lists {
		want := slowCarve(c, l)
		v, e, s := roomy(c.l, stone), roomy(c.e, true), roomy(l, till(-50))
		callers := []func() ([]api.Vert, []bool){
			func() ([]api.Vert, []bool) {
				w, f, _ := Carve(v, e, s)
				return w, f
			},
			func() ([]api.Vert, []bool) { return Cut(v, e, append(slices.Clone(s), nowhere)[0]) },
		}
		wants := []corners{want, slowCut(c, append(slices.Clone(l), nowhere)[0])}
		for i, call := range callers {
			w, f := call()
			kept := corners{w, f}
			again, flags := call()
			for k := range again {
				again[k], flags[k] = stone, !flags[k]
			}
			overwrite(again, stone)
			overwrite(flags, true)
			if !kept.same(wants[i]) {
				t.Errorf("P10.1: what was answered shares memory with what was answered later: %v, not %v", kept, wants[i])
			}
			whole := corners{v[:len(v)+4], e[:len(e)+4]}
			if !whole.same(corners{slices.Concat(c.l, []api.Vert{stone, stone, stone, stone}), slices.Concat(c.e, []bool{true, true, true, true})}) {
				t.Errorf("P10.1: what was handed in is %v, not %v, or its spare room was changed", whole, c)
			}
			if !slices.Equal(s[:len(s)+4], slices.Concat(l, slices.Repeat([]api.Side{till(-50)}, 4))) {
				t.Errorf("P10.1: the sides handed in are %v, not %v, or their spare room was changed", s[:len(s)+4], l)
			}
			for k := range v {
				v[k], e[k] = stone, !e[k]
			}
			if !kept.same(wants[i]) {
				t.Errorf("P10.1: what was answered shares memory with what was handed in: %v, not %v", kept, wants[i])
			}
			v, e = roomy(c.l, stone), roomy(c.e, true)
		}
	}
}

// overwrite fills the spare room behind l.
func overwrite[T any](l []T, filler T) {
	for i := range l[:cap(l)] {
		l[:cap(l)][i] = filler
	}
}
