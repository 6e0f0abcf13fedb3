package side

import (
	"math"
	"math/big"
	"slices"
	"testing"

	"rastrum/api"
)

const (
	maxClip  = 1 << 36
	maxCoef  = 1 << 15
	maxSides = 6
)

var nowhere = api.Vert{}

// vert is the vertex of these coordinates and this color.
func vert(p [4]int, c [4]int) api.Vert {
	return api.Vert{X: p[0], Y: p[1], Z: p[2], W: p[3], C: c}
}

// eight is all numbers of v: X, Y, Z, W, red, green, blue, alpha.
func eight(v api.Vert) [8]int {
	return [8]int{v.X, v.Y, v.Z, v.W, v.C[0], v.C[1], v.C[2], v.C[3]}
}

// of is the vertex whose numbers these are.
func of(l [8]int) api.Vert {
	return vert([4]int(l[:4]), [4]int(l[4:]))
}

// with is v, its i-th number being n.
func with(v api.Vert, i, n int) api.Vert {
	l := eight(v)
	l[i] = n
	return of(l)
}

// lone is four numbers of which all are 0 but the i-th.
func lone(i, n int) [4]int {
	var l [4]int
	l[i] = n
	return l
}

// put is l, its i-th number being n.
func put(l [4]int, i, n int) [4]int {
	l[i] = n
	return l
}

// alike is four numbers that are all n.
func alike(n int) [4]int {
	return [4]int{n, n, n, n}
}

// user is a side of Kind 3.
func user(p ...int) api.Side {
	return api.Side{Kind: 3, P: [4]int(p)}
}

// ends are numbers further out than any that may be, of which some look right where bits are lost.
func ends() []int {
	return []int{math.MinInt, math.MinInt + 1, math.MaxInt, math.MaxInt - 1, 1 << 62, -1 << 62, 1<<62 + 1, 1 << 40, -1 << 40, 1<<37 + 3}
}

// noKinds are numbers that no Kind is.
func noKinds() []int {
	return append(ends(), -1, 4, -2, 5, -3, -4, 7, 8, 1<<8, 1<<8+3, 1<<16+1, 1<<32, 1<<32+2, 1<<32+3, -1<<32)
}

// noCoefs are numbers that none of P may be.
func noCoefs() []int {
	return append(ends(), maxCoef+1, -maxCoef-1, 1<<16, -1<<16, 1<<32, 1<<32+1, -1<<32)
}

// noCoordinates are numbers that no coordinate may be.
func noCoordinates() []int {
	return append(ends(), maxClip+1, -maxClip-1, 1<<37, -1<<37)
}

// noColors are numbers that none of a color may be.
func noColors() []int {
	return append(ends(), -1, 256, -2, 257, -256, 511, 1<<16, 1<<16+5, 1<<32, 1<<32+7, -1<<32, maxClip, -maxClip)
}

// wrongSides are such as may not be.
func wrongSides() []api.Side {
	var l []api.Side
	for _, k := range noKinds() {
		l = append(l, api.Side{Kind: k}, api.Side{Kind: k, P: [4]int{1, -2, 3, -4}}, api.Side{Kind: k, P: alike(maxCoef)})
	}
	for i := range 4 {
		for _, n := range noCoefs() {
			l = append(l, api.Side{Kind: 3, P: lone(i, n)}, api.Side{Kind: 3, P: put(alike(maxCoef), i, n)}, api.Side{Kind: 3, P: put(alike(-maxCoef), i, n)})
			for k := range 3 {
				l = append(l, api.Side{Kind: k, P: lone(i, n)})
			}
		}
		for k := range 3 {
			for _, n := range []int{1, -1, 2, 255, maxCoef, -maxCoef} {
				l = append(l, api.Side{Kind: k, P: lone(i, n)}, api.Side{Kind: k, P: put(alike(n), i, 0)})
			}
		}
	}
	return l
}

// wrongVertices are such as don't fit, by one number each.
func wrongVertices() []api.Vert {
	var l []api.Vert
	for _, v := range []api.Vert{nowhere, vert([4]int{1, -2, 3, 4}, [4]int{5, 6, 7, 8}), vert(alike(maxClip), alike(255)), vert(alike(-maxClip), alike(0))} {
		for i := range 8 {
			wrong := noCoordinates()
			if i >= 4 {
				wrong = noColors()
			}
			for _, n := range wrong {
				l = append(l, with(v, i, n))
			}
		}
	}
	return l
}

// chance is a row of numbers that look like chance and are the same at each run.
type chance uint64

func (c *chance) next() uint64 {
	*c ^= *c << 13
	*c ^= *c >> 7
	*c ^= *c << 17
	return uint64(*c)
}

// among is the next number from least to most.
func (c *chance) among(least, most int) int {
	return least + int(c.next()>>1)%(most-least+1)
}

// vert is a vertex that fits, its coordinates at most reach either way.
func (c *chance) vert(reach int) api.Vert {
	var v [8]int
	for i := range v {
		v[i] = c.among(-reach, reach)
		if i >= 4 {
			v[i] = c.among(0, 255)
		}
	}
	return of(v)
}

// side is a side that may be, its coefficients at most reach either way.
func (c *chance) side(reach int) api.Side {
	s := api.Side{Kind: c.among(0, 3)}
	for i := range s.P {
		if s.Kind == 3 {
			s.P[i] = c.among(-reach, reach)
		}
	}
	return s
}

// wide is n as a number without an end.
func wide(n int) *big.Int { return big.NewInt(int64(n)) }

// stands is, by the chapter's words, the number n d-ths on the way from a to b, by numbers without an end.
func stands(a, b, n, d int) int {
	sum := new(big.Int).Mul(wide(a), new(big.Int).Sub(wide(d), wide(n)))
	sum.Add(sum, new(big.Int).Mul(wide(b), wide(n)))
	// Euclid's quotient by a divisor above 0 is rounded down.
	q, _ := sum.DivMod(sum, wide(d), new(big.Int))
	return int(q.Int64())
}

// slowAt is what At must answer where nothing is wrong.
func slowAt(a, b api.Vert, n, d int) api.Vert {
	p, q := eight(a), eight(b)
	for i := range p {
		p[i] = stands(p[i], q[i], n, d)
	}
	return of(p)
}

// slowDist is how far in v is, by the chapter's words, by numbers without an end.
func slowDist(s api.Side, v api.Vert) int {
	switch s.Kind {
	case 0:
		return v.W - 1
	case 1:
		return v.W + v.Z
	case 2:
		return v.W - v.Z
	}
	sum, p := new(big.Int), eight(v)
	for i, n := range s.P {
		sum.Add(sum, new(big.Int).Mul(wide(n), wide(p[i])))
	}
	return int(sum.Int64())
}

func checkAt(t *testing.T, a, b api.Vert, n, d int, want api.Vert) {
	t.Helper()
	if v, e := At(a, b, n, d); v != want || e != api.OK {
		t.Errorf("P8.2: At(%v, %v, %d, %d): %v, %d; not %v", a, b, n, d, v, e, want)
	}
}

// refusedAt holds that At answers nothing but ErrArg.
func refusedAt(t *testing.T, a, b api.Vert, n, d int) {
	t.Helper()
	if v, e := At(a, b, n, d); v != nowhere || e != api.ErrArg {
		t.Errorf("P8.2: At(%v, %v, %d, %d): %v, %d; not ErrArg", a, b, n, d, v, e)
	}
}

// must is for what must go well.
func must(t *testing.T, a, b api.Vert, n, d int) api.Vert {
	t.Helper()
	v, e := At(a, b, n, d)
	if e != api.OK {
		t.Fatalf("P8.2: At(%v, %v, %d, %d): %d", a, b, n, d, e)
	}
	return v
}

func checkDist(t *testing.T, s api.Side, v api.Vert, want int) {
	t.Helper()
	if n := Dist(s, v); n != want {
		t.Errorf("P8.1: Dist(%v, %v): %d, not %d", s, v, n, want)
	}
}

func TestRight(t *testing.T) {
	good := []api.Side{{Kind: 0}, {Kind: 1}, {Kind: 2}, {Kind: 3}, user(1, -2, 3, -4), user(-maxCoef, maxCoef, -maxCoef, maxCoef)}
	for i := range 4 {
		for _, n := range []int{maxCoef, -maxCoef, maxCoef - 1, 1 - maxCoef, 1, -1, 0} {
			good = append(good, api.Side{Kind: 3, P: lone(i, n)}, api.Side{Kind: 3, P: put(alike(maxCoef), i, n)}, api.Side{Kind: 3, P: put(alike(-maxCoef), i, n)})
		}
	}
	for _, s := range good {
		if !Right(s) {
			t.Errorf("P8.1: the side %v may not be", s)
		}
	}
	for _, s := range wrongSides() {
		if Right(s) {
			t.Errorf("P8.1: the side %v may be", s)
		}
	}
}

func TestFits(t *testing.T) {
	for _, v := range []api.Vert{nowhere, vert([4]int{1, -2, 3, -4}, [4]int{5, 6, 7, 8}), vert(alike(maxClip), alike(255)), vert(alike(-maxClip), alike(0))} {
		for i := range 8 {
			right := []int{maxClip, -maxClip, maxClip - 1, 1 - maxClip, 256, -1, 0, 1}
			if i >= 4 {
				right = []int{0, 1, 127, 128, 254, 255}
			}
			for _, n := range right {
				if w := with(v, i, n); !Fits(w) {
					t.Errorf("P8.1: %v doesn't fit", w)
				}
			}
		}
	}
	for _, v := range wrongVertices() {
		if Fits(v) {
			t.Errorf("P8.1: %v fits", v)
		}
	}
}

// TestDistOfGivenSides has each of the Kinds 0 to 2 just inside, on it and just outside, wherever else the vertex is.
func TestDistOfGivenSides(t *testing.T) {
	ahead, near, far := api.Side{Kind: 0}, api.Side{Kind: 1}, api.Side{Kind: 2}
	for _, x := range []int{0, 1, -5, maxClip, -maxClip} {
		for _, y := range []int{0, 2, -7, maxClip, -maxClip} {
			at := func(z, w int) api.Vert { return vert([4]int{x, y, z, w}, [4]int{1, 20, 128, 255}) }
			for _, z := range []int{0, 1, -1, 9, maxClip, -maxClip} {
				for _, w := range []int{0, 1, 2, -1, -2, 100, maxClip, -maxClip} {
					checkDist(t, ahead, at(z, w), w-1)
				}
			}
			for _, w := range []int{0, 1, 2, 50, -3, maxClip - 1, 1 - maxClip} {
				for d := -1; d <= 1; d++ {
					checkDist(t, near, at(-w+d, w), d)
					checkDist(t, near, at(w+d, w), 2*w+d)
					checkDist(t, far, at(w+d, w), -d)
					checkDist(t, far, at(-w+d, w), 2*w-d)
				}
			}
			checkDist(t, near, at(maxClip, maxClip), 1<<37)
			checkDist(t, near, at(-maxClip, -maxClip), -1<<37)
			checkDist(t, far, at(-maxClip, maxClip), 1<<37)
			checkDist(t, far, at(maxClip, -maxClip), -1<<37)
		}
	}
}

func TestDistOfUsersSides(t *testing.T) {
	c := [4]int{255, 0, 7, 200}
	cases := []struct {
		p, v [4]int
		want int
	}{
		{[4]int{1, 0, 0, 0}, [4]int{3, 50, 700, 9000}, 3},
		{[4]int{0, 1, 0, 0}, [4]int{3, 50, 700, 9000}, 50},
		{[4]int{0, 0, 1, 0}, [4]int{3, 50, 700, 9000}, 700},
		{[4]int{0, 0, 0, 1}, [4]int{3, 50, 700, 9000}, 9000},
		{[4]int{1, 10, 100, 1000}, [4]int{4, 3, 2, 1}, 1234},
		{[4]int{1, -10, 100, -1000}, [4]int{4, 3, -2, -1}, 774},
		{[4]int{-1, 0, 0, 1}, [4]int{5, 0, 0, 5}, 0},
		{[4]int{-1, 0, 0, 1}, [4]int{6, 0, 0, 5}, -1},
		{[4]int{-1, 0, 0, 1}, [4]int{4, 0, 0, 5}, 1},
		{[4]int{2, -3, 5, -7}, [4]int{-11, 13, 17, 1}, 17},
		{[4]int{}, [4]int{maxClip, -maxClip, maxClip, -maxClip}, 0},
		{[4]int{0, 0, 0, 1}, [4]int{0, 0, 0, -1}, -1},
		// The greatest and the least one, and what lies beside them.
		{alike(maxCoef), alike(maxClip), 1 << 53},
		{alike(-maxCoef), alike(-maxClip), 1 << 53},
		{alike(maxCoef), alike(-maxClip), -1 << 53},
		{alike(-maxCoef), alike(maxClip), -1 << 53},
		{[4]int{maxCoef, -maxCoef, -maxCoef, maxCoef}, [4]int{maxClip, -maxClip, -maxClip, maxClip}, 1 << 53},
		{[4]int{maxCoef, -maxCoef, -maxCoef, maxCoef}, [4]int{-maxClip, maxClip, maxClip, -maxClip}, -1 << 53},
		{alike(maxCoef), [4]int{maxClip, maxClip, maxClip, maxClip - 1}, 1<<53 - maxCoef},
		{[4]int{maxCoef, maxCoef, maxCoef, maxCoef - 1}, alike(maxClip), 1<<53 - maxClip},
		{alike(maxCoef), [4]int{maxClip, -maxClip, maxClip, -maxClip}, 0},
	}
	for _, k := range cases {
		checkDist(t, api.Side{Kind: 3, P: k.p}, vert(k.v, c), k.want)
	}
}

// TestDistByChance holds distances against those by numbers without an end; the color counts for nothing.
func TestDistByChance(t *testing.T) {
	c := chance(3)
	for i := range 20000 {
		s, v := c.side(maxCoef>>(i%15)), c.vert(maxClip>>(i%37))
		want := slowDist(s, v)
		checkDist(t, s, v, want)
		v.C = [4]int{c.among(0, 255), c.among(0, 255), 0, 255}
		checkDist(t, s, v, want)
	}
}

// userSides are n sides of the user, no two of them alike.
func userSides(n int) []api.Side {
	var l []api.Side
	for i := range n {
		l = append(l, user(i, -maxCoef+i, maxCoef-i, -i))
	}
	return l
}

// given are the sides ahead of the user's.
func given() []api.Side {
	return []api.Side{{Kind: 0}, {Kind: 1}, {Kind: 2}}
}

func checkList(t *testing.T, l []api.Side) {
	t.Helper()
	before := slices.Clone(l)
	want := append(given(), l...)
	if got, e := List(l); !slices.Equal(got, want) || e != api.OK {
		t.Errorf("P8.1: List(%v): %v, %d; not %v", before, got, e, want)
	}
	if !slices.Equal(l, before) {
		t.Errorf("P8.1: List changed what it was handed: %v, not %v", l, before)
	}
}

func refusedList(t *testing.T, l []api.Side) {
	t.Helper()
	before := slices.Clone(l)
	if got, e := List(l); len(got) != 0 || e != api.ErrArg {
		t.Errorf("P8.1: List(%v): %v, %d; not ErrArg", before, got, e)
	}
	if !slices.Equal(l, before) {
		t.Errorf("P8.1: List changed what it was handed: %v, not %v", l, before)
	}
}

func TestList(t *testing.T) {
	checkList(t, nil)
	checkList(t, []api.Side{})
	for n := range maxSides + 1 {
		checkList(t, userSides(n))
		// Sides may be alike, and have noughts alone.
		checkList(t, slices.Repeat([]api.Side{user(1, 2, 3, 4)}, n))
		checkList(t, slices.Repeat([]api.Side{{Kind: 3}}, n))
		checkList(t, slices.Repeat([]api.Side{user(maxCoef, -maxCoef, -maxCoef, maxCoef)}, n))
	}
}

func TestListOfTooMany(t *testing.T) {
	for _, n := range []int{maxSides + 1, maxSides + 2, 9, 2 * maxSides, 16, 256, 257, 1 << 16, 1<<16 + 1} {
		refusedList(t, slices.Repeat([]api.Side{user(1, 2, 3, 4)}, n))
		refusedList(t, make([]api.Side, n))
		refusedList(t, slices.Repeat([]api.Side{{Kind: 5, P: alike(math.MinInt)}}, n))
	}
	refusedList(t, userSides(maxSides+1))
}

// TestListOfWrongOnes has each place of each length taken by a side that may not be, or is none of the user's.
func TestListOfWrongOnes(t *testing.T) {
	wrong := append(wrongSides(), given()...)
	for n := 1; n <= maxSides; n++ {
		for at := range n {
			for _, s := range wrong {
				l := userSides(n)
				l[at] = s
				refusedList(t, l)
			}
		}
	}
	for _, s := range wrong {
		refusedList(t, slices.Repeat([]api.Side{s}, maxSides))
	}
	// What List answers is no list of the user.
	refusedList(t, given())
}

// TestListIsNewMemory writes into what was handed in, its spare room, and what was answered.
func TestListIsNewMemory(t *testing.T) {
	for n := range maxSides + 1 {
		room := append(userSides(n), api.Side{Kind: 77}, api.Side{Kind: 78}, api.Side{Kind: 79}, api.Side{Kind: 80})
		l, want := room[:n], append(given(), userSides(n)...)
		got, _ := List(l)
		if !slices.Equal(room[n:], []api.Side{{Kind: 77}, {Kind: 78}, {Kind: 79}, {Kind: 80}}) {
			t.Errorf("P8.1: List of %d changed the spare room: %v", n, room[n:])
		}
		for i := range room {
			room[i] = api.Side{Kind: 90 + i, P: alike(i)}
		}
		if !slices.Equal(got, want) {
			t.Errorf("P8.1: what List of %d answered is, when its argument is written over, %v", n, got)
		}
		l = userSides(n)
		first, _ := List(l)
		second, _ := List(l)
		first = first[:cap(first)]
		for i := range first {
			first[i] = api.Side{Kind: 99}
		}
		if !slices.Equal(second, want) || !slices.Equal(l, userSides(n)) {
			t.Errorf("P8.1: two answers of List of %d, or one and its argument, share memory: %v, %v", n, second, l)
		}
		if third, _ := List(l); !slices.Equal(third, want) {
			t.Errorf("P8.1: List of %d hangs on what was done with an answer: %v", n, third)
		}
	}
}

// TestAtOfOneNumber has one number of the vertices moving, all others staying.
func TestAtOfOneNumber(t *testing.T) {
	cases := []struct{ a, b, n, d, want int }{
		{5, -3, 4, 8, 1}, {-3, 5, 4, 8, 1}, {5, -3, 3, 8, 2}, {5, -3, 8, 8, -3}, {5, -3, 0, 8, 5},
		{0, 10, 1, 4, 2}, {0, 10, 2, 4, 5}, {0, 10, 3, 4, 7}, {10, 0, 1, 4, 7}, {10, 0, 3, 4, 2},
		{0, -10, 1, 4, -3}, {0, -10, 2, 4, -5}, {0, -10, 3, 4, -8}, {-10, 0, 1, 4, -8}, {-10, 0, 3, 4, -3},
		{0, 1, 1, 2, 0}, {0, -1, 1, 2, -1}, {-1, 0, 1, 2, -1}, {1, 0, 1, 2, 0}, {-1, 1, 1, 2, 0}, {1, -1, 1, 2, 0},
		{-1, 1, 1, 3, -1}, {-1, 1, 2, 3, 0}, {1, -1, 1, 3, 0}, {1, -1, 2, 3, -1},
		{-7, -4, 1, 3, -6}, {-7, -4, 2, 3, -5}, {-7, -5, 1, 3, -7}, {-7, -5, 2, 3, -6}, {-7, -5, 1, 2, -6},
		{7, 7, 1, 3, 7}, {-7, -7, 1, 3, -7}, {0, 0, 2, 3, 0}, {-7, -7, 6, 7, -7},
		{100, 200, 1, 100, 101}, {100, 200, 99, 100, 199}, {200, 100, 1, 100, 199}, {255, 0, 1, 256, 254}, {0, 255, 255, 256, 254},
		{9, 200, 0, 1, 9}, {9, 200, 1, 1, 200}, {-9, 200, 0, 1, -9}, {-9, 200, 1, 1, 200},
		{0, 255, 1, math.MaxInt, 0}, {255, 0, 1, math.MaxInt, 254}, {0, 255, math.MaxInt - 1, math.MaxInt, 254},
		{0, -255, 1, math.MaxInt, -1}, {-255, 0, 1, math.MaxInt, -255}, {0, 255, math.MaxInt, math.MaxInt, 255},
		{maxClip, -maxClip, 1, 2, 0}, {-maxClip, maxClip, 1, 2, 0}, {maxClip, -maxClip, 1, 3, 22906492245}, {-maxClip, maxClip, 1, 3, -22906492246},
	}
	still := vert([4]int{-5, 6, -maxClip, maxClip}, [4]int{0, 255, 3, 77})
	for _, c := range cases {
		for i := range 8 {
			if i >= 4 && min(c.a, c.b) < 0 || i >= 4 && max(c.a, c.b) > 255 {
				continue
			}
			for _, v := range []api.Vert{nowhere, still} {
				checkAt(t, with(v, i, c.a), with(v, i, c.b), c.n, c.d, with(v, i, c.want))
			}
		}
	}
}

// TestAtOfAllNumbers has each number rising, falling and staying, each in its own way.
func TestAtOfAllNumbers(t *testing.T) {
	a := vert([4]int{10, -10, 100, 7}, [4]int{0, 255, 9, 100})
	b := vert([4]int{-11, 11, 100, 20}, [4]int{255, 0, 9, 110})
	checkAt(t, a, b, 0, 3, a)
	checkAt(t, a, b, 1, 3, vert([4]int{3, -3, 100, 11}, [4]int{85, 170, 9, 103}))
	checkAt(t, a, b, 2, 3, vert([4]int{-4, 4, 100, 15}, [4]int{170, 85, 9, 106}))
	checkAt(t, a, b, 3, 3, b)
	checkAt(t, a, b, 1, 4, vert([4]int{4, -5, 100, 10}, [4]int{63, 191, 9, 102}))
	checkAt(t, b, a, 1, 4, vert([4]int{-6, 5, 100, 16}, [4]int{191, 63, 9, 107}))
	checkAt(t, a, a, 1, 4, a)
	checkAt(t, b, b, 3, 7, b)
	for i := range 8 {
		for k := range 8 {
			if i != k {
				v, w := with(with(nowhere, i, 3), k, 200), with(with(nowhere, i, 200), k, 3)
				checkAt(t, v, w, 1, 2, with(with(nowhere, i, 101), k, 101))
				checkAt(t, v, w, 1, 10, with(with(nowhere, i, 22), k, 180))
			}
		}
	}
}

// TestAtOfEveryNOfD goes all ways of a few lengths, in all steps.
func TestAtOfEveryNOfD(t *testing.T) {
	a := vert([4]int{-50, 50, 33, -1}, [4]int{0, 255, 100, 31})
	b := vert([4]int{51, -49, 33, 1}, [4]int{255, 1, 100, 32})
	for d := 1; d <= 130; d++ {
		for n := 0; n <= d; n++ {
			checkAt(t, a, b, n, d, slowAt(a, b, n, d))
			checkAt(t, b, a, n, d, slowAt(b, a, n, d))
		}
	}
}

// TestAtOfTheGreatest has coordinates at their bounds, and weights up to the end of int.
func TestAtOfTheGreatest(t *testing.T) {
	top, bottom := vert(alike(maxClip), alike(255)), vert(alike(-maxClip), alike(0))
	mixed := vert([4]int{maxClip, -maxClip, -maxClip, maxClip}, [4]int{0, 255, 255, 0})
	for _, d := range []int{1, 2, 3, 255, maxClip, 1 << 37, 1 << 54, 1<<62 - 1, 1 << 62, 1<<62 + 1, math.MaxInt - 1, math.MaxInt} {
		for _, n := range []int{0, 1, 2, 3, d / 3, d/2 - 1, d / 2, d/2 + 1, d - 3, d - 2, d - 1, d} {
			if n < 0 || n > d {
				continue
			}
			for _, a := range []api.Vert{top, bottom, mixed, nowhere} {
				for _, b := range []api.Vert{top, bottom, mixed, nowhere} {
					checkAt(t, a, b, n, d, slowAt(a, b, n, d))
				}
			}
		}
	}
}

// TestAtByChance holds what stands on a way against what does by numbers without an end.
func TestAtByChance(t *testing.T) {
	c := chance(7)
	for i := range 30000 {
		a, b := c.vert(maxClip>>(i%37)), c.vert(maxClip>>(i*5%37))
		d := 1 + int(c.next()>>1)>>(i%63)
		d = max(d, 1)
		n := int(c.next()>>1) % d
		checkAt(t, a, b, n, d, slowAt(a, b, n, d))
		checkAt(t, a, b, d-n, d, slowAt(a, b, d-n, d))
	}
}

func TestAtOfNoPart(t *testing.T) {
	a, b := vert([4]int{1, -2, 3, 4}, [4]int{5, 6, 7, 8}), vert([4]int{9, 8, 7, 6}, [4]int{50, 60, 70, 80})
	for _, d := range []int{1, 2, 3, 100, 1 << 32, 1 << 62, math.MaxInt - 1, math.MaxInt} {
		for _, n := range []int{-1, -2, -d, 1 - d - 2, -1 << 32, math.MinInt + 1, math.MinInt} {
			refusedAt(t, a, b, n, d)
			refusedAt(t, a, a, n, d)
		}
		if d < math.MaxInt {
			refusedAt(t, a, b, d+1, d)
			refusedAt(t, nowhere, nowhere, d+1, d)
			refusedAt(t, a, b, math.MaxInt, d)
		}
	}
	for _, d := range []int{0, -1, -2, -100, -1 << 32, -1 << 62, math.MinInt + 1, math.MinInt} {
		for _, n := range []int{0, 1, -1, 2, d, d / 2, d + 1, d - 1, -d, math.MaxInt, math.MinInt} {
			refusedAt(t, a, b, n, d)
			refusedAt(t, nowhere, nowhere, n, d)
		}
	}
}

// TestAtOfWhatDoesntFit has a vertex that doesn't fit at either end, even where it would count for nothing.
func TestAtOfWhatDoesntFit(t *testing.T) {
	good := vert([4]int{1, -2, 3, 4}, [4]int{5, 6, 7, 8})
	for _, bad := range wrongVertices() {
		for _, part := range [][2]int{{0, 1}, {1, 1}, {1, 2}, {0, math.MaxInt}, {math.MaxInt, math.MaxInt}, {2, 1}, {-1, 1}, {0, 0}, {math.MinInt, math.MaxInt}} {
			refusedAt(t, bad, good, part[0], part[1])
			refusedAt(t, good, bad, part[0], part[1])
			refusedAt(t, bad, bad, part[0], part[1])
		}
	}
}

// inOrder tells whether each number of v is one of a's and b's, or between them.
func inOrder(a, v, b api.Vert) bool {
	p, q, r := eight(a), eight(v), eight(b)
	for i := range 8 {
		if q[i] < min(p[i], r[i]) || q[i] > max(p[i], r[i]) {
			return false
		}
	}
	return true
}

func TestWayFromEndToEnd(t *testing.T) {
	c := chance(11)
	for i := range 5000 {
		a, b := c.vert(maxClip>>(i%37)), c.vert(maxClip>>(i*7%37))
		d := 1 + int(c.next()>>1)>>(i%62+1)
		n := int(c.next()>>1) % (d + 1)
		if v := must(t, a, b, 0, d); v != a {
			t.Errorf("P8.3: the way from %v to %v in %d begins at %v", a, b, d, v)
		}
		if v := must(t, a, b, d, d); v != b {
			t.Errorf("P8.3: the way from %v to %v in %d ends at %v", a, b, d, v)
		}
		v := must(t, a, b, n, d)
		if !inOrder(a, v, b) || !Fits(v) {
			t.Errorf("P8.3: %d of %d on the way from %v to %v stands %v", n, d, a, b, v)
		}
		if w := must(t, b, a, d-n, d); w != v {
			t.Errorf("P8.3: %d of %d on the way from %v to %v stands %v, from the other end %v", n, d, a, b, v, w)
		}
		if m := n + int(c.next()>>1)%(d-n+1); !inOrder(v, must(t, a, b, m, d), b) {
			t.Errorf("P8.3: on the way from %v to %v in %d what stands at %d is nearer to the end than what does at %d", a, b, d, n, m)
		}
	}
}

// slack is the least and the greatest distance of what stands at a meeting of a side, where rounding down takes from each
// coordinate something that is below 1.
func slack(s api.Side) (int, int) {
	switch s.Kind {
	case 0:
		return 0, 0
	case 1:
		// W and Z are rounded down each, and nothing is left of both together: they lose 0 or 1.
		return -1, 0
	case 2:
		// W and Z are the same there, and rounded alike.
		return 0, 0
	}
	least, most, some := 0, 0, 0
	for _, n := range s.P {
		least, most = least-max(n, 0), most-min(n, 0)
		if n != 0 {
			some++
		}
	}
	if some < 2 {
		return 0, 0
	}
	// All that is lost of a coordinate is below 1.
	return min(least+1, 0), max(most-1, 0)
}

// checkMeeting holds that the way from a, inside s, to b, outside of it, meets s where they say.
func checkMeeting(t *testing.T, s api.Side, a, b api.Vert) {
	t.Helper()
	n := Dist(s, a)
	d := n - Dist(s, b)
	v := must(t, a, b, n, d)
	least, most := slack(s)
	if in := Dist(s, v); in < least || in > most {
		t.Errorf("P8.3: the way from %v to %v meets %v at %v, which is %d in, not from %d to %d", a, b, s, v, in, least, most)
	}
	if !inOrder(a, v, b) {
		t.Errorf("P8.3: the way from %v to %v meets %v at %v, which isn't on it", a, b, s, v)
	}
	if w := must(t, b, a, d-n, d); w != v {
		t.Errorf("P8.3: the way from %v to %v meets %v at %v, from the other end at %v", a, b, s, v, w)
	}
	if n == 0 && v != a {
		t.Errorf("P8.3: the way from %v, on %v, to %v meets it at %v", a, s, b, v)
	}
}

func TestMeetings(t *testing.T) {
	ahead, near, far := api.Side{Kind: 0}, api.Side{Kind: 1}, api.Side{Kind: 2}
	at := func(x, y, z, w int) api.Vert { return vert([4]int{x, y, z, w}, [4]int{255, 0, 9, 100}) }
	cases := []struct {
		s    api.Side
		a, b api.Vert
		want [4]int
	}{
		{ahead, at(0, 0, 0, 5), at(8, -8, 3, -3), [4]int{4, -4, 1, 1}},
		{ahead, at(9, 9, 9, 1), at(0, 0, 0, 0), [4]int{9, 9, 9, 1}},
		{ahead, at(9, 9, 9, 2), at(0, 1, 2, 0), [4]int{4, 5, 5, 1}},
		{near, at(0, 0, 2, 2), at(10, 0, -6, 2), [4]int{5, 0, -2, 2}},
		{near, at(0, 0, 0, 1), at(0, 7, -3, 2), [4]int{0, 3, -2, 1}},
		{far, at(0, 0, 1, 2), at(-9, 9, 5, 3), [4]int{-3, 3, 2, 2}},
		{far, at(0, 0, 0, 1), at(-9, 9, 3, 2), [4]int{-5, 4, 1, 1}},
		{user(-1, 0, 0, 1), at(0, 0, 0, 4), at(9, 3, 6, 5), [4]int{4, 1, 3, 4}},
		{user(1, 1, 1, 0), at(1, 1, 1, 1), at(-1, -2, -3, 3), [4]int{0, 0, -1, 1}},
		{user(3, -2, 0, 1), at(2, 1, 0, 1), at(-2, 1, 0, 1), [4]int{0, 1, 0, 1}},
	}
	for _, c := range cases {
		checkMeeting(t, c.s, c.a, c.b)
		n := Dist(c.s, c.a)
		if v := must(t, c.a, c.b, n, n-Dist(c.s, c.b)); [4]int{v.X, v.Y, v.Z, v.W} != c.want {
			t.Errorf("P8.3: the way from %v to %v meets %v at %v, not %v", c.a, c.b, c.s, v, c.want)
		}
	}
}

func TestMeetingsOfTheGreatest(t *testing.T) {
	top, bottom := vert(alike(maxClip), alike(255)), vert(alike(-maxClip), alike(0))
	sides := append(given()[:2], user(maxCoef, maxCoef, maxCoef, maxCoef), user(0, 0, 0, maxCoef), user(1, 0, 0, 0))
	for _, s := range sides {
		checkMeeting(t, s, top, bottom)
	}
	checkMeeting(t, api.Side{Kind: 2}, with(top, 2, -maxClip), with(bottom, 2, maxClip))
	checkMeeting(t, user(-maxCoef, -maxCoef, -maxCoef, -maxCoef), bottom, top)
	checkMeeting(t, user(maxCoef, -maxCoef, maxCoef, -maxCoef), vert([4]int{maxClip, -maxClip, maxClip, -maxClip}, alike(1)),
		vert([4]int{-maxClip, maxClip, 1 - maxClip, maxClip}, alike(254)))
}

func TestMeetingsByChance(t *testing.T) {
	c, many := chance(13), [4]int{}
	for i := range 60000 {
		s := c.side(maxCoef >> (i % 16))
		a, b := c.vert(maxClip>>(i%36)), c.vert(maxClip>>(i%36))
		if Dist(s, a) < Dist(s, b) {
			a, b = b, a
		}
		if Dist(s, a) < 0 || Dist(s, b) >= 0 {
			continue
		}
		many[s.Kind]++
		checkMeeting(t, s, a, b)
	}
	for k, n := range many {
		if n < 2000 {
			t.Errorf("of Kind %d there were %d meetings: too few to tell anything", k, n)
		}
	}
}
