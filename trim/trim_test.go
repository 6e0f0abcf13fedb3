package trim

import (
	"math/big"
	"slices"
	"testing"

	"rastrum/api"
)

const (
	maxClip = 1 << 36
	maxCoef = 1 << 15
)

// What a line does at a side, as Part tells it.
const (
	inside  = 0
	in      = 1
	out     = 2
	outside = 3
)

var (
	nowhere = api.Vert{}
	ahead   = api.Side{Kind: 0}
	near    = api.Side{Kind: 1}
	far     = api.Side{Kind: 2}
)

// at is a vertex without a color.
func at(x, y, z, w int) api.Vert {
	return api.Vert{X: x, Y: y, Z: z, W: w}
}

// user is a side of Kind 3.
func user(p ...int) api.Side {
	return api.Side{Kind: 3, P: [4]int(p)}
}

// from is the side where X isn't below n, of a vertex whose W is 1; till is the one where it isn't above.
func from(n int) api.Side { return user(1, 0, 0, -n) }
func till(n int) api.Side { return user(-1, 0, 0, n) }

// turned is s with what is inside and what is outside exchanged, but for what is on it.
func turned(s api.Side) api.Side {
	for i := range s.P {
		s.P[i] = -s.P[i]
	}
	return s
}

// chance is a row of numbers that look like chance and are the same at each run.
type chance uint64

func (c *chance) next() uint64 {
	*c ^= *c << 13
	*c ^= *c >> 7
	*c ^= *c << 17
	return uint64(*c)
}

// among is the next number from least to most.
func (c *chance) among(least, most int) int {
	return least + int(c.next()>>1)%(most-least+1)
}

// vert is a vertex that fits, its coordinates at most reach either way.
func (c *chance) vert(reach int) api.Vert {
	v := at(c.among(-reach, reach), c.among(-reach, reach), c.among(-reach, reach), c.among(-reach, reach))
	for i := range v.C {
		v.C[i] = c.among(0, 255)
	}
	return v
}

// side is a side that may be, its coefficients at most reach either way.
func (c *chance) side(reach int) api.Side {
	s := api.Side{Kind: c.among(0, 3)}
	for i := range s.P {
		if s.Kind == 3 {
			s.P[i] = c.among(-reach, reach)
		}
	}
	return s
}

// shuffled is l in another order.
func (c *chance) shuffled(l []api.Side) []api.Side {
	l = slices.Clone(l)
	for i := range l {
		k := c.among(i, len(l)-1)
		l[i], l[k] = l[k], l[i]
	}
	return l
}

// wide is n as a number without an end.
func wide(n int) *big.Int { return big.NewInt(int64(n)) }

// slowDist is how far in v is (chapter 8), by numbers without an end.
func slowDist(s api.Side, v api.Vert) *big.Int {
	p := s.P
	switch s.Kind {
	case 0:
		return wide(v.W - 1)
	case 1:
		p = [4]int{0, 0, 1, 1}
	case 2:
		p = [4]int{0, 0, -1, 1}
	}
	sum := new(big.Int)
	for i, n := range [4]int{v.X, v.Y, v.Z, v.W} {
		sum.Add(sum, new(big.Int).Mul(wide(p[i]), wide(n)))
	}
	return sum
}

// slowPart is what Part must answer, by the chapter's words.
func slowPart(s api.Side, a, b api.Vert) (int, int, int) {
	p, q := int(slowDist(s, a).Int64()), int(slowDist(s, b).Int64())
	if p < 0 && q >= 0 {
		return in, -p, -p + q
	}
	if p >= 0 && q < 0 {
		return out, p, p - q
	}
	if p < 0 {
		return outside, 0, 0
	}
	return inside, 0, 0
}

// reach are the greatest part at which a line comes in, and the least at which it goes out; nil where it does nowhere.
type reach struct{ in, out *big.Rat }

// slowReach is how far the sides let the line from a to b go, and whether they let anything of it.
func slowReach(a, b api.Vert, l []api.Side) (reach, bool) {
	var r reach
	for _, s := range l {
		does, n, d := slowPart(s, a, b)
		switch does {
		case in:
			if p := big.NewRat(int64(n), int64(d)); r.in == nil || p.Cmp(r.in) > 0 {
				r.in = p
			}
		case out:
			if p := big.NewRat(int64(n), int64(d)); r.out == nil || p.Cmp(r.out) < 0 {
				r.out = p
			}
		case outside:
			return reach{}, false
		}
	}
	if r.in != nil && r.out != nil && r.in.Cmp(r.out) > 0 {
		return reach{}, false
	}
	return r, true
}

// slowStand is the vertex that stands at the part p of the way from a to b, by numbers without an end.
func slowStand(a, b api.Vert, p *big.Rat) api.Vert {
	number := func(m, n int) int {
		f := new(big.Rat).SetInt(wide(n - m))
		f.Mul(f, p).Add(f, new(big.Rat).SetInt(wide(m)))
		// Euclid's quotient by a divisor above 0 is rounded down.
		q, _ := new(big.Int).DivMod(f.Num(), f.Denom(), new(big.Int))
		return int(q.Int64())
	}
	v := at(number(a.X, b.X), number(a.Y, b.Y), number(a.Z, b.Z), number(a.W, b.W))
	for i := range v.C {
		v.C[i] = number(a.C[i], b.C[i])
	}
	return v
}

// slowTrim is what Trim must answer, by the chapter's words.
func slowTrim(a, b api.Vert, l []api.Side) (api.Vert, api.Vert, bool) {
	r, some := slowReach(a, b, l)
	if !some {
		return nowhere, nowhere, false
	}
	v, w := a, b
	if r.in != nil {
		v = slowStand(a, b, r.in)
	}
	if r.out != nil {
		w = slowStand(a, b, r.out)
	}
	return v, w, true
}

func checkPart(t *testing.T, s api.Side, a, b api.Vert, does, n, d int) {
	t.Helper()
	if does1, n1, d1 := Part(s, a, b); does1 != does || n1 != n || d1 != d {
		t.Errorf("P9.1: Part(%v, %v, %v): %d, %d, %d; not %d, %d, %d", s, a, b, does1, n1, d1, does, n, d)
	}
}

// checkWay holds Trim of one list, from a to b alone.
func checkWay(t *testing.T, promise string, a, b api.Vert, l []api.Side, v, w api.Vert, some bool) {
	t.Helper()
	if v1, w1, some1 := Trim(a, b, l); v1 != v || w1 != w || some1 != some {
		t.Errorf("%s: Trim(%v, %v, %v): %v, %v, %t; not %v, %v, %t", promise, a, b, l, v1, w1, some1, v, w, some)
	}
}

// checkTrim holds Trim from both ends, with the list as it is, turned about, and with each side once more.
func checkTrim(t *testing.T, a, b api.Vert, l []api.Side, v, w api.Vert, some bool) {
	t.Helper()
	before := slices.Clone(l)
	checkWay(t, "P9.2", a, b, l, v, w, some)
	checkWay(t, "P9.3", b, a, l, w, v, some)
	back := slices.Clone(l)
	slices.Reverse(back)
	checkWay(t, "P9.3", a, b, back, v, w, some)
	if twice := append(back, l...); len(twice) <= 9 {
		checkWay(t, "P9.3", a, b, twice, v, w, some)
	}
	if !slices.Equal(l, before) {
		t.Errorf("P9.2: Trim changed what it was handed: %v, not %v", l, before)
	}
}

// left holds that v and w are left of the line from a to b.
func left(t *testing.T, a, b api.Vert, l []api.Side, v, w api.Vert) {
	t.Helper()
	checkTrim(t, a, b, l, v, w, true)
}

// gone holds that nothing is left of the line from a to b.
func gone(t *testing.T, a, b api.Vert, l []api.Side) {
	t.Helper()
	checkTrim(t, a, b, l, nowhere, nowhere, false)
}

// orders calls f with each order of l.
func orders(l []api.Side, f func(l []api.Side)) {
	var swap func(k int)
	swap = func(k int) {
		if k >= len(l)-1 {
			f(slices.Clone(l))
			return
		}
		for i := k; i < len(l); i++ {
			l[k], l[i] = l[i], l[k]
			swap(k + 1)
			l[k], l[i] = l[i], l[k]
		}
	}
	l = slices.Clone(l)
	swap(0)
}

func TestPart(t *testing.T) {
	cases := []struct {
		s          api.Side
		a, b       api.Vert
		does, n, d int
	}{
		{ahead, at(0, 0, 0, 5), at(0, 0, 0, -3), out, 4, 8},
		{ahead, at(0, 0, 0, -3), at(0, 0, 0, 5), in, 4, 8},
		{ahead, at(0, 0, 0, 3), at(9, 9, 9, 7), inside, 0, 0},
		{ahead, at(9, 9, 9, 0), at(0, 0, 0, -4), outside, 0, 0},
		{near, at(1, 2, -30, 10), at(3, 4, 30, 10), in, 20, 60},
		{near, at(1, 2, 30, 10), at(3, 4, -30, 10), out, 40, 60},
		{near, at(1, 2, -3, 4), at(3, 4, 5, -5), inside, 0, 0},
		{near, at(1, 2, -3, 2), at(3, 4, 5, -6), outside, 0, 0},
		{far, at(1, 2, -30, 10), at(3, 4, 30, 10), out, 40, 60},
		{far, at(1, 2, 30, 10), at(3, 4, -30, 10), in, 20, 60},
		{far, at(1, 2, 3, 4), at(3, 4, -5, -5), inside, 0, 0},
		{far, at(1, 2, 3, 2), at(3, 4, -5, -6), outside, 0, 0},
		{user(1, 10, 100, 1000), at(1, 2, 3, 4), at(-4, -3, -2, -1), out, 4321, 5555},
		{user(1, 10, 100, 1000), at(-4, -3, -2, -1), at(1, 2, 3, 4), in, 1234, 5555},
		{user(-1, 0, 0, 1), at(0, 0, 0, 7), at(10, 0, 0, 7), out, 7, 10},
		{user(-1, 0, 0, 1), at(5, 0, 0, 7), at(7, 0, 0, 7), inside, 0, 0},
		{user(-1, 0, 0, 1), at(8, 0, 0, 7), at(9, 0, 0, 7), outside, 0, 0},
		{user(0, 0, 0, 0), at(8, 0, 0, 7), at(-9, 0, 0, -7), inside, 0, 0},
		// As they are, not by the least numbers of the same worth.
		{user(6, 0, 0, 0), at(-2, 0, 0, 0), at(4, 0, 0, 0), in, 12, 36},
		{user(6, 0, 0, 0), at(4, 0, 0, 0), at(-2, 0, 0, 0), out, 24, 36},
	}
	for _, c := range cases {
		checkPart(t, c.s, c.a, c.b, c.does, c.n, c.d)
	}
}

// TestPartOnAndBeside has both ends on each Kind of side, a bit inside, a bit outside, and farther off.
func TestPartOnAndBeside(t *testing.T) {
	kinds := []struct {
		s  api.Side
		at func(d int) api.Vert
	}{
		{ahead, func(d int) api.Vert { return at(-7, 7, 900, d+1) }},
		{near, func(d int) api.Vert { return at(-7, 7, d-10, 10) }},
		{near, func(d int) api.Vert { return at(-7, 7, 10, d-10) }},
		{far, func(d int) api.Vert { return at(-7, 7, 10-d, 10) }},
		{far, func(d int) api.Vert { return at(-7, 7, -10, d-10) }},
		{user(1, 0, 0, 0), func(d int) api.Vert { return at(d, 7, -900, 10) }},
		{user(2, 3, -5, -1), func(d int) api.Vert { return at(5, 5, 4, 5-d) }},
		{user(0, -1, 0, 3), func(d int) api.Vert { return at(-900, 27-d, 900, 9) }},
	}
	far := []int{-maxCoef, -100, -7, -2, -1, 0, 1, 2, 7, 100, maxCoef}
	for _, k := range kinds {
		for _, p := range far {
			for _, q := range far {
				a, b := k.at(p), k.at(q)
				switch {
				case p >= 0 && q >= 0:
					checkPart(t, k.s, a, b, inside, 0, 0)
				case p < 0 && q < 0:
					checkPart(t, k.s, a, b, outside, 0, 0)
				case p < 0:
					checkPart(t, k.s, a, b, in, -p, q-p)
				default:
					checkPart(t, k.s, a, b, out, p, p-q)
				}
			}
		}
	}
}

func TestPartOfTheGreatest(t *testing.T) {
	top, bottom := at(maxClip, maxClip, maxClip, maxClip), at(-maxClip, -maxClip, -maxClip, -maxClip)
	whole := user(maxCoef, maxCoef, maxCoef, maxCoef)
	checkPart(t, whole, bottom, top, in, 1<<53, 1<<54)
	checkPart(t, whole, top, bottom, out, 1<<53, 1<<54)
	checkPart(t, turned(whole), bottom, top, out, 1<<53, 1<<54)
	checkPart(t, turned(whole), top, bottom, in, 1<<53, 1<<54)
	checkPart(t, whole, bottom, bottom, outside, 0, 0)
	checkPart(t, whole, top, top, inside, 0, 0)
	checkPart(t, ahead, bottom, top, in, 1<<36+1, 1<<37)
	checkPart(t, ahead, top, bottom, out, 1<<36-1, 1<<37)
	checkPart(t, near, bottom, top, in, 1<<37, 1<<38)
	checkPart(t, far, at(0, 0, -maxClip, maxClip), at(0, 0, maxClip, -maxClip), out, 1<<37, 1<<38)
	checkPart(t, far, at(0, 0, maxClip, -maxClip), at(0, 0, -maxClip, maxClip), in, 1<<37, 1<<38)
}

func TestPartByChance(t *testing.T) {
	c, many := chance(5), [4]int{}
	for i := range 40000 {
		s, a, b := c.side(maxCoef>>(i%16)), c.vert(maxClip>>(i%37)), c.vert(maxClip>>(i*5%37))
		does, n, d := slowPart(s, a, b)
		many[does]++
		checkPart(t, s, a, b, does, n, d)
	}
	for does, n := range many {
		if n < 3000 {
			t.Errorf("of lines of which Part tells %d there were %d: too few to tell anything", does, n)
		}
	}
}

// TestTrimAtOneSide has lines of each Kind that come in, go out, are inside and outside.
func TestTrimAtOneSide(t *testing.T) {
	cases := []struct {
		s       api.Side
		a, b    api.Vert
		v, w    api.Vert
		nothing bool
	}{
		{s: ahead, a: at(0, 0, 0, 5), b: at(0, 0, 0, -3), v: at(0, 0, 0, 5), w: at(0, 0, 0, 1)},
		{s: ahead, a: at(8, -8, 3, -3), b: at(0, 0, 0, 5), v: at(4, -4, 1, 1), w: at(0, 0, 0, 5)},
		{s: ahead, a: at(8, -8, 3, 1), b: at(0, 0, 0, 5), v: at(8, -8, 3, 1), w: at(0, 0, 0, 5)},
		{s: ahead, a: at(8, -8, 3, 0), b: at(0, 0, 0, -5), nothing: true},
		{s: near, a: at(0, 0, -30, 10), b: at(60, 6, 30, 10), v: at(20, 2, -10, 10), w: at(60, 6, 30, 10)},
		{s: near, a: at(0, 0, 30, 10), b: at(60, 6, -30, 10), v: at(0, 0, 30, 10), w: at(40, 4, -10, 10)},
		{s: near, a: at(0, 0, -3, 4), b: at(3, 4, 5, -5), v: at(0, 0, -3, 4), w: at(3, 4, 5, -5)},
		{s: near, a: at(0, 0, -3, 2), b: at(3, 4, 5, -6), nothing: true},
		{s: far, a: at(0, 0, 30, 10), b: at(60, 6, -30, 10), v: at(20, 2, 10, 10), w: at(60, 6, -30, 10)},
		{s: far, a: at(0, 0, -30, 10), b: at(60, 6, 30, 10), v: at(0, 0, -30, 10), w: at(40, 4, 10, 10)},
		{s: far, a: at(0, 0, 3, 4), b: at(3, 4, -5, -5), v: at(0, 0, 3, 4), w: at(3, 4, -5, -5)},
		{s: far, a: at(0, 0, 3, 2), b: at(3, 4, -5, -6), nothing: true},
		{s: user(3, -2, 0, 1), a: at(-2, 1, 0, 1), b: at(2, 1, 0, 1), v: at(0, 1, 0, 1), w: at(2, 1, 0, 1)},
		{s: user(1, 1, 1, 0), a: at(1, 1, 1, 1), b: at(-1, -2, -3, 3), v: at(1, 1, 1, 1), w: at(0, 0, -1, 1)},
		{s: user(1, 1, 1, 0), a: at(5, -5, 0, -9), b: at(-1, -2, 4, 3), v: at(5, -5, 0, -9), w: at(-1, -2, 4, 3)},
		{s: user(1, 1, 1, 0), a: at(5, -5, -1, 9), b: at(-1, -2, 2, 3), nothing: true},
	}
	for _, c := range cases {
		checkTrim(t, c.a, c.b, []api.Side{c.s}, c.v, c.w, !c.nothing)
	}
}

// TestTrimColors holds that colors are cut with coordinates, each number rounded down, and stay whole at whole ends.
func TestTrimColors(t *testing.T) {
	a, b := at(0, 0, 0, 1), at(100, 50, -50, 1)
	a.C, b.C = api.Color{0, 255, 9, 100}, api.Color{255, 0, 9, 110}
	third, half := at(33, 16, -17, 1), at(50, 25, -25, 1)
	third.C, half.C = api.Color{84, 170, 9, 103}, api.Color{127, 127, 9, 105}
	left(t, a, b, []api.Side{from(33), till(50)}, third, half)
	left(t, a, b, []api.Side{from(33)}, third, b)
	left(t, a, b, []api.Side{till(50)}, a, half)
	left(t, a, b, []api.Side{from(0), till(100)}, a, b)
}

// TestTrimOfKinds has lines that come in at a side of one Kind and go out at one of another, at, before and behind it.
func TestTrimOfKinds(t *testing.T) {
	left(t, at(0, 0, -30, 10), at(60, 0, 30, 10), []api.Side{near, far}, at(20, 0, -10, 10), at(40, 0, 10, 10))
	left(t, at(0, 0, -20, -9), at(0, 0, 20, 11), []api.Side{ahead, far}, at(0, 0, 0, 1), at(0, 0, 2, 2))
	left(t, at(0, 0, -19, -9), at(0, 0, 21, 11), []api.Side{ahead, far}, at(0, 0, 1, 1), at(0, 0, 1, 1))
	gone(t, at(0, 0, -18, -9), at(0, 0, 22, 11), []api.Side{ahead, far})
	left(t, at(0, 0, 20, -9), at(0, 0, -20, 11), []api.Side{ahead, near}, at(0, 0, 0, 1), at(0, 0, -2, 2))
	left(t, at(0, 0, 19, -9), at(0, 0, -21, 11), []api.Side{ahead, near}, at(0, 0, -1, 1), at(0, 0, -1, 1))
	gone(t, at(0, 0, 18, -9), at(0, 0, -22, 11), []api.Side{ahead, near})
	left(t, at(-40, 0, -30, 10), at(20, 0, 30, 10), []api.Side{near, user(-1, 0, 0, 1)}, at(-20, 0, -10, 10), at(10, 0, 20, 10))
	left(t, at(-10, 0, -30, 10), at(50, 0, 30, 10), []api.Side{near, user(-1, 0, 0, 1)}, at(10, 0, -10, 10), at(10, 0, -10, 10))
	gone(t, at(-9, 0, -30, 10), at(51, 0, 30, 10), []api.Side{near, user(-1, 0, 0, 1)})
	// Of 36 parts of the way: in at the Kind 0 at 18, at near at 19; out at far at 27, at the user's at 30.
	a, b := at(-50, 0, -14, -5), at(58, 0, 10, 7)
	orders([]api.Side{ahead, near, far, user(-1, 0, 0, 8)}, func(l []api.Side) {
		left(t, a, b, l, at(7, 0, -2, 1), at(31, 0, 4, 4))
		gone(t, a, b, append(l, user(1, 0, 0, -8)))
	})
}

// TestTrimInEachOrder has a line come in and go out at all places of a few, on its ends and beyond them too.
func TestTrimInEachOrder(t *testing.T) {
	a, b := at(0, 100, 7, 1), at(20, 60, 7, 1)
	stand := func(x int) api.Vert { return at(x, 100-2*x, 7, 1) }
	for i := -2; i <= 22; i++ {
		for k := -2; k <= 22; k++ {
			l := []api.Side{from(i), till(k)}
			if i > k || i > 20 || k < 0 {
				gone(t, a, b, l)
				continue
			}
			left(t, a, b, l, stand(max(i, 0)), stand(min(k, 20)))
		}
	}
}

// TestTrimOfManySides has each order of two sides at which a line comes in, and two at which it goes out, in each order along
// the way.
func TestTrimOfManySides(t *testing.T) {
	a, b := at(-30, 0, 0, 1), at(30, 0, 0, 1)
	places := []int{-30, -12, -11, 0, 1, 30}
	for _, i := range places {
		for _, k := range places {
			for _, m := range places {
				for _, n := range places {
					v, w := max(i, k), min(m, n)
					orders([]api.Side{from(i), from(k), till(m), till(n)}, func(l []api.Side) {
						if v > w {
							gone(t, a, b, l)
							return
						}
						left(t, a, b, l, at(v, 0, 0, 1), at(w, 0, 0, 1))
					})
				}
			}
		}
	}
}

// TestTrimOfOneOutside has one side of which both ends are outside at each place of each length, whatever the others leave.
func TestTrimOfOneOutside(t *testing.T) {
	a, b := at(-30, 0, -5, 1), at(30, 0, -5, 1)
	for _, s := range []api.Side{near, from(31), till(-31), user(0, 0, 0, -1), user(0, 0, 1, 4)} {
		for _, other := range []api.Side{far, from(-30), till(30), from(0), till(0), from(30), till(-30), s} {
			for n := 1; n <= 9; n++ {
				for i := range n {
					l := slices.Repeat([]api.Side{other}, n)
					l[i] = s
					gone(t, a, b, l)
				}
			}
		}
	}
}

// TestTrimOfEndsOnASide has an end on a side, as a and as b, with the other one inside, outside, and on it.
func TestTrimOfEndsOnASide(t *testing.T) {
	kinds := []struct {
		s  api.Side
		at func(d int) api.Vert
	}{
		{ahead, func(d int) api.Vert { return at(9-d, 2*d, 900, d+1) }},
		{near, func(d int) api.Vert { return at(9-d, 2*d, d-10, 10) }},
		{far, func(d int) api.Vert { return at(9-d, 2*d, 10-d, 10) }},
		{user(5, 0, 0, 0), func(d int) api.Vert { return at(d, 2*d, 900, 10-d) }},
		{user(1, -1, 0, 3), func(d int) api.Vert { return at(d, 27, 4-d, 9) }},
	}
	for _, k := range kinds {
		for _, d := range []int{1, 2, 9, 1000, maxCoef} {
			on, in, out := k.at(0), k.at(d), k.at(-d)
			l := []api.Side{k.s}
			left(t, on, in, l, on, in)
			left(t, on, out, l, on, on)
			left(t, on, on, l, on, on)
			left(t, in, out, l, in, on)
			gone(t, out, k.at(-1), l)
			left(t, out, k.at(1), l, slowStand(out, k.at(1), big.NewRat(int64(d), int64(d+1))), k.at(1))
		}
	}
	// On one side each, and beyond the other one's.
	a, b := at(0, 0, 0, 1), at(10, 0, 0, 1)
	left(t, a, b, []api.Side{from(0), till(10)}, a, b)
	left(t, a, b, []api.Side{till(0)}, a, a)
	left(t, a, b, []api.Side{from(10)}, b, b)
	left(t, a, b, []api.Side{from(0), till(0)}, a, a)
	left(t, a, b, []api.Side{from(10), till(10)}, b, b)
	gone(t, a, b, []api.Side{till(0), from(10)})
	gone(t, a, b, []api.Side{till(0), from(1)})
	gone(t, a, b, []api.Side{till(9), from(10)})
	left(t, a, b, []api.Side{from(10), till(11)}, b, b)
}

// TestTrimAtOnePart has a line come in, and go out, where it comes in too, by parts that other numbers tell.
func TestTrimAtOnePart(t *testing.T) {
	a, b := at(0, 300, -90, 1), at(30, 0, 0, 1)
	third := at(10, 200, -60, 1)
	for _, k := range []int{1, 2, 3, 7, 100, 163} {
		for _, s := range []api.Side{user(k, 0, 0, -10*k), user(0, -k, 0, 200*k), user(0, 0, k, 60*k)} {
			left(t, a, b, []api.Side{from(10), s}, third, b)
			left(t, a, b, []api.Side{till(10), turned(s)}, a, third)
			left(t, a, b, []api.Side{from(10), turned(s)}, third, third)
			left(t, a, b, []api.Side{till(10), s}, third, third)
			gone(t, a, b, []api.Side{from(11), turned(s)})
			gone(t, a, b, []api.Side{till(9), s})
			left(t, a, b, []api.Side{from(9), turned(s)}, at(9, 210, -63, 1), third)
			left(t, a, b, []api.Side{till(11), s}, third, at(11, 190, -57, 1))
		}
	}
}

func TestTrimOfNoSidesOneAndNine(t *testing.T) {
	lines := [][2]api.Vert{
		{nowhere, nowhere},
		{at(0, 0, 0, 5), at(0, 0, 0, -3)},
		{at(1, -2, 3, -4), at(-5, 6, -7, 8)},
		{at(maxClip, -maxClip, maxClip, -maxClip), at(-maxClip, maxClip, maxClip, maxClip)},
	}
	for _, c := range lines {
		c[1].C = api.Color{255, 0, 1, 254}
		left(t, c[0], c[1], nil, c[0], c[1])
		left(t, c[0], c[1], []api.Side{}, c[0], c[1])
		left(t, c[0], c[1], slices.Repeat([]api.Side{user(0, 0, 0, 0)}, 9), c[0], c[1])
	}
	a, b := at(-100, 0, 0, 1), at(100, 0, 0, 1)
	left(t, a, b, []api.Side{from(-7)}, at(-7, 0, 0, 1), b)
	nine := []api.Side{ahead, near, far, from(-50), till(60), from(-40), till(55), user(1, -1, 0, 41), user(-1, 1, 0, 54)}
	left(t, a, b, nine, at(-40, 0, 0, 1), at(54, 0, 0, 1))
	// Each of the nine counts, wherever it stands.
	for i := range nine {
		l := slices.Clone(nine)
		l[i] = from(20)
		v, w, _ := slowTrim(a, b, l)
		left(t, a, b, l, v, w)
		l[i] = till(-20)
		v, w, _ = slowTrim(a, b, l)
		left(t, a, b, l, v, w)
		l[i] = from(101)
		gone(t, a, b, l)
	}
}

func TestTrimOfAPoint(t *testing.T) {
	c := chance(17)
	for i := range 5000 {
		a := c.vert(maxClip >> (i % 37))
		var l []api.Side
		for range i % 10 {
			l = append(l, c.side(maxCoef>>(i%16)))
		}
		if slices.ContainsFunc(l, func(s api.Side) bool { return slowDist(s, a).Sign() < 0 }) {
			gone(t, a, a, l)
			continue
		}
		left(t, a, a, l, a, a)
	}
	a := at(3, 4, 5, 5)
	left(t, a, a, []api.Side{far, user(1, 0, 0, 0), user(4, -3, 0, 0)}, a, a)
	gone(t, a, a, []api.Side{far, user(1, 0, 0, 0), user(4, -3, -1, 0)})
}

// TestTrimOfTheGreatest has all coordinates and coefficients at their bounds: parts held crosswise need more than 64 bits.
func TestTrimOfTheGreatest(t *testing.T) {
	signs := func(bits, n int) [4]int {
		l := [4]int{n, n, n, n}
		for i := range l {
			if bits>>i&1 != 0 {
				l[i] = -n
			}
		}
		return l
	}
	var sides []api.Side
	for bits := range 16 {
		sides = append(sides, api.Side{Kind: 3, P: signs(bits, maxCoef)})
	}
	sides = append(sides, ahead, near, far, user(1, 0, 0, 0), user(0, 0, 1, 0), user(0, -1, 0, 0), user(1, 2, -maxCoef, maxCoef))
	ends := []api.Vert{at(maxClip, 0, -maxClip, 1), at(1-maxClip, maxClip, 1, maxClip)}
	for bits := range 16 {
		p := signs(bits, maxClip)
		ends = append(ends, at(p[0], p[1], p[2], p[3]))
	}
	for _, a := range ends {
		a.C = api.Color{255, 0, 255, 1}
		for _, b := range ends {
			for i, s := range sides {
				for _, r := range sides[i:] {
					l := []api.Side{s, r}
					v, w, some := slowTrim(a, b, l)
					checkTrim(t, a, b, l, v, w, some)
				}
			}
		}
	}
}

// TestTrimOfGreatProducts has parts whose products crosswise are of more than 100 bits and differ by 1.
func TestTrimOfGreatProducts(t *testing.T) {
	const u, one = maxCoef - 4, maxClip
	a, b := at(one, one-1, 0, 0), at(0, 0, one, one-1)
	// The line comes in at it at the part n, divided by n and m together; n is u times 2^36, and v; m that, and x.
	comes := func(v, x int) api.Side { return user(-u-v, v, u+x, -x) }
	goes := func(v, x int) api.Side { return turned(comes(v, x)) }
	checkPart(t, comes(2, 1), a, b, in, u*one+2, 2*u*one+3)
	checkPart(t, goes(1, 0), a, b, out, u*one+1, 2*u*one+1)
	v := at(1<<35-1, 1<<35-1, 1<<35, 1<<35-1)
	for k := range 3 {
		left(t, a, b, []api.Side{comes(k+1, k), goes(k+1, k)}, v, v)
		left(t, a, b, []api.Side{comes(k+2, k+1), goes(k+1, k)}, v, v)
		gone(t, a, b, []api.Side{comes(k+1, k), goes(k+2, k+1)})
		gone(t, a, b, []api.Side{comes(k+3, k+2), comes(k+1, k), goes(k+2, k+1)})
		gone(t, a, b, []api.Side{goes(k+2, k+1), goes(k, k-1), comes(k+1, k)})
	}
}

// TestTrimOfNearlyOnePart has parts that no float tells apart, but the vertices that stand there do.
func TestTrimOfNearlyOnePart(t *testing.T) {
	const c = 1 << 27
	a, b := at(512*c-1, 512*c, -512*c, 512*c), at(1-511*c, -511*c, 511*c, -511*c)
	// At 512 of 1023 parts of the way, all coordinates but X are 0; of e 0 the line comes in just there, of e 1 a bit
	// earlier, of e -1 a bit later.
	comes := func(e int) api.Side { return user(e, -maxCoef, maxCoef, -maxCoef) }
	goes := func(e int) api.Side { return turned(comes(e)) }
	stand := map[int]api.Vert{1: at(0, 0, -1, 0), 0: at(0, 0, 0, 0), -1: at(0, -1, 0, -1)}
	for i := -1; i <= 1; i++ {
		left(t, a, b, []api.Side{comes(i)}, stand[i], b)
		left(t, a, b, []api.Side{goes(i)}, a, stand[i])
		for k := -1; k <= 1; k++ {
			left(t, a, b, []api.Side{comes(i), comes(k)}, stand[min(i, k)], b)
			left(t, a, b, []api.Side{goes(i), goes(k)}, a, stand[max(i, k)])
			if i < k {
				gone(t, a, b, []api.Side{comes(i), goes(k)})
				continue
			}
			left(t, a, b, []api.Side{comes(i), goes(k)}, stand[i], stand[k])
		}
	}
	orders([]api.Side{comes(-1), comes(0), comes(1)}, func(l []api.Side) { left(t, a, b, l, stand[-1], b) })
	orders([]api.Side{goes(-1), goes(0), goes(1)}, func(l []api.Side) { left(t, a, b, l, a, stand[1]) })
	orders([]api.Side{comes(0), goes(0), comes(1), goes(-1)}, func(l []api.Side) { left(t, a, b, l, stand[0], stand[0]) })
	orders([]api.Side{comes(0), goes(0), comes(1), goes(1)}, func(l []api.Side) { gone(t, a, b, l) })
}

// sidesFor are n sides, few of which have both ends outside.
func (c *chance) sidesFor(a, b api.Vert, n, reach int) []api.Side {
	var l []api.Side
	for range n {
		s := c.side(reach)
		if does, _, _ := slowPart(s, a, b); does == outside && c.among(0, 9) > 0 {
			s = turned(s)
			s.Kind = 3
		}
		l = append(l, s)
	}
	return l
}

// TestTrimByChance holds what is left against what is by fractions without an end, in other orders and from the other end too.
func TestTrimByChance(t *testing.T) {
	c, many, meet := chance(23), [5]int{}, 0
	for i := range 60000 {
		reach, coef := maxClip>>(i%37), maxCoef>>(i%16)
		if i%4 == 0 {
			// Few numbers, so that many parts are the same.
			reach, coef = 3, 1
		}
		a, b := c.vert(reach), c.vert(reach)
		l := c.sidesFor(a, b, c.among(0, 9)*c.among(1, 9)/9, coef)
		r, some := slowReach(a, b, l)
		v, w, _ := slowTrim(a, b, l)
		checkTrim(t, a, b, l, v, w, some)
		l = c.shuffled(l)
		if n := len(l); n > 0 && n < 9 {
			l = append(l, l[c.among(0, n-1)])
		}
		checkWay(t, "P9.3", a, b, l, v, w, some)
		checkWay(t, "P9.3", b, a, l, w, v, some)
		many[kindOf(r, some)]++
		if r.in != nil && r.out != nil && r.in.Cmp(r.out) == 0 {
			meet++
		}
	}
	for k, n := range many {
		if n < 2000 {
			t.Errorf("of lines of sort %d there were %d: too few to tell anything", k, n)
		}
	}
	if meet < 100 {
		t.Errorf("of lines that come in where they go out there were %d: too few to tell anything", meet)
	}
}

// kindOf is 0 where nothing is left, 1 where no end is cut, 2 where a is, 3 where b is, 4 where both are.
func kindOf(r reach, some bool) int {
	switch {
	case !some:
		return 0
	case r.in == nil && r.out == nil:
		return 1
	case r.out == nil:
		return 2
	case r.in == nil:
		return 3
	}
	return 4
}

// TestTrimLeavesWhatIsInside has lines of which both ends are inside all sides.
func TestTrimLeavesWhatIsInside(t *testing.T) {
	c, many := chance(29), 0
	for i := range 20000 {
		a, b := c.vert(maxClip>>(i%37)), c.vert(maxClip>>(i*7%37))
		var l []api.Side
		for range 1 + i%9 {
			s := c.side(maxCoef >> (i % 16))
			if does, _, _ := slowPart(s, a, b); does == inside {
				l = append(l, s)
			}
		}
		if len(l) > 0 {
			many++
		}
		checkWay(t, "P9.3", a, b, l, a, b, true)
		checkWay(t, "P9.3", b, a, l, b, a, true)
	}
	if many < 5000 {
		t.Errorf("there were %d lines inside a side or more: too few to tell anything", many)
	}
}

// TestTrimKeepsOutOfSpareRoom has sides behind those handed in, which count for nothing and stay.
func TestTrimKeepsOutOfSpareRoom(t *testing.T) {
	a, b := at(-100, 0, 0, 1), at(100, 0, 0, 1)
	whole := []api.Side{from(-50), till(60), from(-40), till(55), from(101), {Kind: 77}, {Kind: -1, P: [4]int{1, 2, 3, 4}}}
	before := slices.Clone(whole)
	for n := range 5 {
		v, w, _ := slowTrim(a, b, before[:n])
		for range 2 {
			checkWay(t, "P9.2", a, b, whole[:n], v, w, true)
		}
		if !slices.Equal(whole, before) {
			t.Fatalf("P9.2: Trim of %d sides left %v, not %v", n, whole, before)
		}
	}
}
