package stack

import (
	"math"
	"slices"
	"testing"

	"rastrum/api"
)

const (
	one      = 65536
	maxMat   = 1 << 28
	maxStack = 8
)

var (
	none = api.Mat{}
	unit = api.Mat{
		one, 0, 0, 0,
		0, one, 0, 0,
		0, 0, one, 0,
		0, 0, 0, one,
	}
	// swap brings x to y and y to x, double makes x twice as great: their product hangs on which one is first.
	swap = api.Mat{
		0, one, 0, 0,
		one, 0, 0, 0,
		0, 0, one, 0,
		0, 0, 0, one,
	}
	double = api.Mat{
		2 * one, 0, 0, 0,
		0, one, 0, 0,
		0, 0, one, 0,
		0, 0, 0, one,
	}
)

// unlike is the n-th of matrices of which no two have an entry in common, neither in one place nor in two.
func unlike(n int) api.Mat {
	var m api.Mat
	for i := range m {
		m[i] = 16*n + i + 1
	}
	return m
}

// put is m, its i-th entry being n.
func put(m api.Mat, i, n int) api.Mat {
	m[i] = n
	return m
}

// filled is the matrix all of whose entries are n.
func filled(n int) api.Mat {
	var m api.Mat
	for i := range m {
		m[i] = n
	}
	return m
}

// list is n matrices that are unlike one another, the first one being unlike(from).
func list(from, n int) []api.Mat {
	var l []api.Mat
	for i := range n {
		l = append(l, unlike(from+i))
	}
	return l
}

// stacks are of a and b matrices, which are all unlike.
func stacks(mode, a, b int) api.Stacks {
	return api.Stacks{Mode: mode, L: [2][]api.Mat{list(0, a), list(100, b)}}
}

// listed is s, one of its lists being l.
func listed(s api.Stacks, mode int, l ...api.Mat) api.Stacks {
	s.L[mode] = l
	return s
}

// moded is s, Mode being mode.
func moded(s api.Stacks, mode int) api.Stacks {
	s.Mode = mode
	return s
}

// copied is s in memory of its own.
func copied(s api.Stacks) api.Stacks {
	for i := range s.L {
		s.L[i] = slices.Clone(s.L[i])
	}
	return s
}

func same(a, b api.Stacks) bool {
	return a.Mode == b.Mode && slices.Equal(a.L[0], b.L[0]) && slices.Equal(a.L[1], b.L[1])
}

// scribble writes over all that s leads to, the spare room of its lists too.
func scribble(s api.Stacks) {
	for _, l := range s.L {
		for i := range l[:cap(l)] {
			l[:cap(l)][i] = filled(-77)
		}
	}
}

// product is that of a and b by the chapter of layer 5, and whether it may be.
func product(a, b api.Mat) (api.Mat, bool) {
	var m api.Mat
	for i := range m {
		row, column, sum := i/4*4, i%4, 0
		for k := range 4 {
			sum += a[row+k] * b[column+4*k]
		}
		m[i] = sum / one
		if sum%one < 0 {
			m[i]-- // rounded down
		}
		if m[i] > maxMat || m[i] < -maxMat {
			return none, false
		}
	}
	return m, true
}

// call is one of the calls that answer Stacks.
type call struct {
	name string
	do   func(api.Stacks) (api.Stacks, api.Errno)
}

func load(m api.Mat) call {
	return call{"Load", func(s api.Stacks) (api.Stacks, api.Errno) { return Load(s, m) }}
}

func mult(m api.Mat) call {
	return call{"Mult", func(s api.Stacks) (api.Stacks, api.Errno) { return Mult(s, m) }}
}

func choose(mode int) call {
	return call{"Choose", func(s api.Stacks) (api.Stacks, api.Errno) { return Choose(s, mode) }}
}

// calls are those that answer Stacks, each with an argument that may be.
func calls() []call {
	return []call{choose(0), choose(1), load(unlike(50)), load(none), mult(unlike(60)), mult(unit), {"Push", Push}, {"Pop", Pop}}
}

// check does a call and holds its answer, and what it was handed, against what they must be.
func check(t *testing.T, c call, s, want api.Stacks, wantErr api.Errno) {
	t.Helper()
	before := copied(s)
	got, e := c.do(s)
	if !same(got, want) || e != wantErr {
		t.Errorf("%s(%v): %v, %d; not %v, %d", c.name, before, got, e, want, wantErr)
	}
	if !same(s, before) {
		t.Errorf("%s changed what it was handed: %v, not %v", c.name, s, before)
	}
	if e == api.OK && !Right(got) {
		t.Errorf("%s(%v): %v, which may not be", c.name, before, got)
	}
}

// refused holds that a call answers nothing but an error.
func refused(t *testing.T, c call, s api.Stacks, want api.Errno) {
	t.Helper()
	check(t, c, s, api.Stacks{}, want)
}

func checkTop(t *testing.T, s api.Stacks, mode int, want api.Mat, wantErr api.Errno) {
	t.Helper()
	before := copied(s)
	if m, e := Top(s, mode); m != want || e != wantErr {
		t.Errorf("P6.1: Top(%v, %d): %v, %d; not %v, %d", before, mode, m, e, want, wantErr)
	}
	if !same(s, before) {
		t.Errorf("Top changed what it was handed: %v, not %v", s, before)
	}
}

// must is for calls that have to go well.
func must(t *testing.T, s api.Stacks, row ...call) api.Stacks {
	t.Helper()
	for i, c := range row {
		next, e := c.do(s)
		if e != api.OK {
			t.Fatalf("call %d, %s(%v): %d", i, c.name, s, e)
		}
		s = next
	}
	return s
}

// noModes are numbers that Mode and mode may not be.
func noModes() []int {
	return []int{-1, 2, -2, 3, 8, 1 << 8, 1 << 16, 1 << 32, 1<<32 + 1, -1 << 32, 1 << 62, 1<<62 + 1, math.MaxInt, math.MaxInt - 1, math.MinInt, math.MinInt + 1}
}

// noEntries are numbers that no entry may be: one beyond the bounds, and further out.
func noEntries() []int {
	return []int{maxMat + 1, -maxMat - 1, 1 << 32, -1 << 32, 1<<32 + 1, math.MaxInt, math.MinInt}
}

// everySize does something for each Mode and each two numbers of matrices that may be.
func everySize(do func(mode, a, b int)) {
	for mode := range 2 {
		for a := 1; a <= maxStack; a++ {
			for b := 1; b <= maxStack; b++ {
				do(mode, a, b)
			}
		}
	}
}

func TestNew(t *testing.T) {
	want := api.Stacks{Mode: 0, L: [2][]api.Mat{{unit}, {unit}}}
	s := New()
	if !same(s, want) || !Right(s) {
		t.Errorf("P6.1: New(): %v", s)
	}
	checkTop(t, s, 0, unit, api.OK)
	checkTop(t, s, 1, unit, api.OK)
	refused(t, call{"Pop", Pop}, s, api.ErrStack)
	refused(t, call{"Pop", Pop}, must(t, s, choose(1)), api.ErrStack)
	s.L[0][0][0] = 5
	if s.L[1][0] != unit {
		t.Errorf("P6.1: the two lists of New() are one: %v", s)
	}
	if s := New(); !same(s, want) {
		t.Errorf("P6.1: New() once more, behind a write into the first one: %v", s)
	}
}

func TestRight(t *testing.T) {
	everySize(func(mode, a, b int) {
		if s := stacks(mode, a, b); !Right(s) {
			t.Errorf("P6.1: %v may not be", s)
		}
	})
	if s := (api.Stacks{L: [2][]api.Mat{{none}, {none}}}); !Right(s) {
		t.Errorf("P6.1: %v may not be", s)
	}
}

// wrongStacks are such as may not be, for one cause each.
func wrongStacks() []api.Stacks {
	var l []api.Stacks
	for _, n := range noModes() {
		l = append(l, stacks(n, 1, 1), stacks(n, maxStack, maxStack), stacks(n, 2, 3))
	}
	for mode := range 2 {
		l = append(l, stacks(mode, 0, 1), stacks(mode, 1, 0), stacks(mode, 0, 0), stacks(mode, 0, maxStack), stacks(mode, maxStack, 0))
		l = append(l, listed(stacks(mode, 3, 3), 0, []api.Mat{}...), listed(stacks(mode, 3, 3), 1, []api.Mat{}...))
		for _, many := range []int{maxStack + 1, maxStack + 2, 2 * maxStack, 257, 1<<16 + 1} {
			l = append(l, stacks(mode, many, 1), stacks(mode, 1, many), stacks(mode, maxStack, many), stacks(mode, many, many))
		}
		l = append(l, wrongMatrices(mode)...)
	}
	return append(l, api.Stacks{}, api.Stacks{Mode: 1})
}

// wrongMatrices are Stacks of which one matrix may not be, at any depth of either list.
func wrongMatrices(mode int) []api.Stacks {
	var l []api.Stacks
	for which := range 2 {
		for size := 1; size <= maxStack; size++ {
			for at := range size {
				for _, n := range noEntries() {
					s := stacks(mode, 2, 2)
					s.L[which] = list(20, size)
					s.L[which][at][(at*7+size)%16] = n
					l = append(l, s)
				}
			}
		}
	}
	return l
}

func TestWrongStacks(t *testing.T) {
	for _, s := range wrongStacks() {
		if Right(s) {
			t.Errorf("P6.1: %v may be", s)
		}
		for _, c := range calls() {
			refused(t, c, s, api.ErrArg)
		}
		checkTop(t, s, 0, none, api.ErrArg)
		checkTop(t, s, 1, none, api.ErrArg)
		checkTop(t, s, -1, none, api.ErrArg)
		refused(t, choose(2), s, api.ErrArg)
		refused(t, load(filled(maxMat+1)), s, api.ErrArg)
		refused(t, mult(filled(maxMat+1)), s, api.ErrArg)
		// The product may not be either, with most of these tops; that is named behind.
		refused(t, mult(filled(maxMat)), s, api.ErrArg)
	}
}

// TestEveryEntry has each entry of each matrix at its bounds and one beyond.
func TestEveryEntry(t *testing.T) {
	for which := range 2 {
		for at := range maxStack {
			for i := range 16 {
				s := stacks(0, maxStack, maxStack)
				for _, n := range []int{maxMat, -maxMat, 0} {
					s.L[which][at][i] = n
					if !Right(s) {
						t.Errorf("P6.1: %v may not be", s)
					}
					checkTop(t, s, which, s.L[which][maxStack-1], api.OK)
					check(t, choose(1), s, moded(s, 1), api.OK)
				}
				for _, n := range noEntries() {
					s.L[which][at][i] = n
					if Right(s) {
						t.Errorf("P6.1: %v may be", s)
					}
					checkTop(t, s, 0, none, api.ErrArg)
					checkTop(t, s, 1, none, api.ErrArg)
					for mode := range 2 {
						for _, c := range calls() {
							refused(t, c, moded(s, mode), api.ErrArg)
						}
					}
				}
			}
		}
	}
}

// TestWrongMode has a mode that may not be handed to Stacks that may.
func TestWrongMode(t *testing.T) {
	for _, n := range noModes() {
		everySize(func(mode, a, b int) {
			s := stacks(mode, a, b)
			checkTop(t, s, n, none, api.ErrArg)
			refused(t, choose(n), s, api.ErrArg)
		})
	}
}

func TestTop(t *testing.T) {
	everySize(func(mode, a, b int) {
		s := stacks(mode, a, b)
		checkTop(t, s, 0, unlike(a-1), api.OK)
		checkTop(t, s, 1, unlike(100+b-1), api.OK)
	})
}

func TestChoose(t *testing.T) {
	everySize(func(mode, a, b int) {
		check(t, choose(0), stacks(mode, a, b), stacks(0, a, b), api.OK)
		check(t, choose(1), stacks(mode, a, b), stacks(1, a, b), api.OK)
	})
}

// topped is s, the last matrix of the list that is meant being m.
func topped(s api.Stacks, m api.Mat) api.Stacks {
	s = copied(s)
	l := s.L[s.Mode]
	l[len(l)-1] = m
	return s
}

func TestLoad(t *testing.T) {
	everySize(func(mode, a, b int) {
		s := stacks(mode, a, b)
		for _, m := range []api.Mat{none, unit, unlike(77), filled(maxMat), filled(-maxMat)} {
			check(t, load(m), s, topped(s, m), api.OK)
		}
	})
}

// TestHandedInMatrices has each entry of the matrix that is handed in at its bounds and one beyond.
func TestHandedInMatrices(t *testing.T) {
	for mode := range 2 {
		for _, size := range []int{1, 5, maxStack} {
			s := topped(stacks(mode, size, size), unit)
			for i := range 16 {
				for _, n := range []int{maxMat, -maxMat, maxMat - 1, 1 - maxMat} {
					m := put(unlike(77), i, n)
					check(t, load(m), s, topped(s, m), api.OK)
					check(t, mult(m), s, topped(s, m), api.OK)
				}
				for _, n := range noEntries() {
					refused(t, load(put(unlike(77), i, n)), s, api.ErrArg)
					refused(t, mult(put(unlike(77), i, n)), s, api.ErrArg)
					// With nothing but noughts for a top the product would be noughts.
					refused(t, mult(put(unlike(77), i, n)), topped(s, none), api.ErrArg)
				}
			}
			refused(t, load(filled(math.MinInt)), s, api.ErrArg)
			refused(t, mult(filled(math.MaxInt)), s, api.ErrArg)
		}
	}
}

func TestMult(t *testing.T) {
	everySize(func(mode, a, b int) {
		s := topped(stacks(mode, a, b), swap)
		// The rows change their places in what is handed in behind, the columns in what stands ahead.
		check(t, mult(double), s, topped(s, api.Mat{
			0, one, 0, 0,
			2 * one, 0, 0, 0,
			0, 0, one, 0,
			0, 0, 0, one,
		}), api.OK)
		s = topped(s, double)
		check(t, mult(swap), s, topped(s, api.Mat{
			0, 2 * one, 0, 0,
			one, 0, 0, 0,
			0, 0, one, 0,
			0, 0, 0, one,
		}), api.OK)
		check(t, mult(unit), s, s, api.OK)
		check(t, mult(none), s, topped(s, none), api.OK)
		check(t, mult(unlike(77)), topped(s, unit), topped(s, unlike(77)), api.OK)
		// Rounded down, below 0 too.
		check(t, mult(filled(-1)), topped(s, filled(1)), topped(s, filled(-1)), api.OK)
		check(t, mult(filled(1)), topped(s, filled(1)), topped(s, none), api.OK)
	})
}

// TestMultOfUnlikeOnes holds the product against the one that goes the other way round, too.
func TestMultOfUnlikeOnes(t *testing.T) {
	for n := range 40 {
		a, b := put(unlike(500+n), n%16, -90*one), put(unlike(3000+77*n), (n+1)*5%16, 7*one)
		ab, ok := product(a, b)
		ba, back := product(b, a)
		if !ok || !back || ab == ba {
			t.Fatalf("%v and %v make the same either way round, or nothing", a, b)
		}
		for mode := range 2 {
			s := stacks(mode, 3, 4)
			check(t, mult(b), topped(s, a), topped(s, ab), api.OK)
			check(t, mult(a), topped(s, b), topped(s, ba), api.OK)
		}
	}
}

// TestProductsThatMayNotBe has each entry of the product at its bounds, by a rest that is rounded off too, and one beyond.
func TestProductsThatMayNotBe(t *testing.T) {
	for i := range 16 {
		row, column := i/4*4, i%4
		// The i-th entry of top and m's product is a times x, b times y and c times z, by One.
		top := func(a, b, c int) api.Mat { return put(put(put(none, row, a), row+1, b), row+2, c) }
		m := func(x, y, z int) api.Mat {
			return put(put(put(none, column, x), column+4, y), column+8, z)
		}
		for mode := range 2 {
			for size := 1; size <= maxStack; size++ {
				s := stacks(mode, size, size)
				good := func(a, b api.Mat, want int) {
					t.Helper()
					check(t, mult(b), topped(s, a), topped(s, put(none, i, want)), api.OK)
				}
				bad := func(a, b api.Mat) {
					t.Helper()
					refused(t, mult(b), topped(s, a), api.ErrRange)
				}
				good(top(maxMat, 0, 0), m(one, 0, 0), maxMat)
				good(top(maxMat, 1, 0), m(one, one-1, 0), maxMat)
				bad(top(maxMat, 1, 0), m(one, one, 0))
				good(top(-maxMat, 0, 0), m(one, 0, 0), -maxMat)
				good(top(-maxMat, 1, 1), m(one, -1, 1), -maxMat)
				bad(top(-maxMat, 1, 1), m(one, -1, 0))
				bad(top(maxMat, maxMat, maxMat), m(maxMat, maxMat, maxMat))
				bad(top(maxMat, maxMat, maxMat), m(-maxMat, -maxMat, -maxMat))
				good(top(maxMat, maxMat, 1), m(-maxMat, maxMat, one), 1)
			}
		}
	}
	for _, s := range []api.Stacks{stacks(0, 1, 1), stacks(1, maxStack, maxStack)} {
		refused(t, mult(filled(maxMat)), topped(s, filled(maxMat)), api.ErrRange)
		refused(t, mult(filled(-maxMat)), topped(s, filled(maxMat)), api.ErrRange)
		// Of the other one's top it could not be made; of the one that is meant it can.
		other := 1 - s.Mode
		far := moded(topped(moded(s, other), filled(maxMat)), s.Mode)
		check(t, mult(filled(2*one)), topped(far, none), topped(far, none), api.OK)
		// A wrong matrix is named ahead of a product that may not be.
		refused(t, mult(put(filled(maxMat), 3, maxMat+1)), topped(s, filled(maxMat)), api.ErrArg)
	}
}

func TestPush(t *testing.T) {
	push := call{"Push", Push}
	everySize(func(mode, a, b int) {
		s := stacks(mode, a, b)
		l := s.L[mode]
		if len(l) == maxStack {
			refused(t, push, s, api.ErrStack)
			return
		}
		want := copied(s)
		want.L[mode] = append(want.L[mode], l[len(l)-1])
		check(t, push, s, want, api.OK)
	})
}

func TestPop(t *testing.T) {
	pop := call{"Pop", Pop}
	everySize(func(mode, a, b int) {
		s := stacks(mode, a, b)
		if len(s.L[mode]) == 1 {
			refused(t, pop, s, api.ErrStack)
			return
		}
		want := copied(s)
		want.L[mode] = want.L[mode][:len(want.L[mode])-1]
		check(t, pop, s, want, api.OK)
	})
}

// TestFullAndEmptyWithWrongOnes holds that ErrArg is named ahead of ErrStack.
func TestFullAndEmptyWithWrongOnes(t *testing.T) {
	for mode := range 2 {
		for which := range 2 {
			full, single := stacks(mode, maxStack, maxStack), stacks(mode, 1, 1)
			full.L[which][4][9] = maxMat + 1
			single.L[which][0][9] = -maxMat - 1
			refused(t, call{"Push", Push}, full, api.ErrArg)
			refused(t, call{"Pop", Pop}, single, api.ErrArg)
		}
		for _, n := range []int{0, maxStack + 1} {
			refused(t, call{"Push", Push}, listed(stacks(mode, maxStack, maxStack), 1-mode, list(0, n)...), api.ErrArg)
			refused(t, call{"Pop", Pop}, listed(stacks(mode, 1, 1), 1-mode, list(0, n)...), api.ErrArg)
		}
	}
	for _, n := range noModes() {
		refused(t, call{"Push", Push}, stacks(n, maxStack, maxStack), api.ErrArg)
		refused(t, call{"Pop", Pop}, stacks(n, 1, 1), api.ErrArg)
	}
}

// TestUpAndDown pushes as often as may be, either one, and pops all of it.
func TestUpAndDown(t *testing.T) {
	for mode := range 2 {
		s := must(t, New(), choose(mode), load(unlike(1)))
		for n := 2; n <= maxStack; n++ {
			s = must(t, s, call{"Push", Push})
			checkTop(t, s, mode, unlike(n-1), api.OK)
			s = must(t, s, load(unlike(n)))
		}
		want := listed(moded(New(), mode), mode, list(1, maxStack)...)
		if !same(s, want) {
			t.Errorf("P6.2: pushed and loaded: %v", s)
		}
		refused(t, call{"Push", Push}, s, api.ErrStack)
		// The other one has room, and just one matrix.
		refused(t, call{"Pop", Pop}, must(t, s, choose(1-mode)), api.ErrStack)
		checkTop(t, must(t, s, choose(1-mode), call{"Push", Push}), mode, unlike(maxStack), api.OK)
		for n := maxStack - 1; n >= 1; n-- {
			s = must(t, s, call{"Pop", Pop})
			checkTop(t, s, mode, unlike(n), api.OK)
		}
		refused(t, call{"Pop", Pop}, s, api.ErrStack)
	}
}

// TestPopTakesPushBack has each list of each size, and rows of calls between that leave as many matrices as they find.
func TestPopTakesPushBack(t *testing.T) {
	push, pop := call{"Push", Push}, call{"Pop", Pop}
	rows := [][]call{
		{},
		{load(unlike(300))},
		{load(none), load(filled(maxMat)), load(unlike(301))},
		{mult(double)},
		{mult(swap), mult(double), mult(swap), mult(unit)},
		{load(double), mult(swap), load(swap), mult(double)},
		{mult(none), load(filled(-maxMat)), mult(unit)},
	}
	everySize(func(mode, a, b int) {
		s := stacks(mode, a, b)
		room := maxStack - len(s.L[mode])
		for _, row := range rows {
			between := row
			// Once, twice and more, one within the other.
			for range room {
				between = append(append([]call{push}, between...), pop)
				if got := must(t, s, between...); !same(got, s) {
					t.Errorf("P6.3: %v, pushed, changed and popped: %v", s, got)
				}
			}
		}
	})
}

// TestOneChangesNothingOfTheOther has rows of calls on one, and looks at the other between.
func TestOneChangesNothingOfTheOther(t *testing.T) {
	push, pop := call{"Push", Push}, call{"Pop", Pop}
	row := []call{load(unlike(200)), push, mult(double), push, load(unlike(201)), mult(swap), pop, load(none), pop, mult(unlike(4))}
	everySize(func(mode, a, b int) {
		s := stacks(mode, a, b)
		other := 1 - mode
		for i, c := range row {
			next, e := c.do(s)
			if e == api.ErrStack {
				continue
			}
			if e != api.OK {
				t.Fatalf("call %d, %s(%v): %d", i, c.name, s, e)
			}
			if !slices.Equal(next.L[other], s.L[other]) || next.Mode != mode {
				t.Errorf("P6.3: call %d, %s(%v), did something to the other one: %v", i, c.name, s, next)
			}
			s = next
			if back := must(t, s, choose(other), choose(mode)); !same(back, s) {
				t.Errorf("P6.3: %v, the other one chosen and this one again: %v", s, back)
			}
		}
	})
}

// roomy is s, each list followed by spare room in which something stands.
func roomy(s api.Stacks) api.Stacks {
	for i, l := range s.L {
		long := append(slices.Clone(l), list(700, 5)...)
		s.L[i] = long[:len(l)]
	}
	return s
}

// TestNothingIsShared writes over what was handed in, and over what was answered.
func TestNothingIsShared(t *testing.T) {
	everySize(func(mode, a, b int) {
		for _, c := range calls() {
			s := roomy(stacks(mode, a, b))
			got, e := c.do(s)
			for i, l := range s.L {
				if n := len(l); !slices.Equal(l[:n+5], append(slices.Clone(stacks(mode, a, b).L[i]), list(700, 5)...)) {
					t.Fatalf("%s changed what it was handed, or its spare room: %v", c.name, l[:n+5])
				}
			}
			if e != api.OK {
				continue
			}
			was := copied(got)
			scribble(s)
			if !same(got, was) {
				t.Errorf("%s: what it answered changed with what it was handed: %v, not %v", c.name, got, was)
			}
			s = roomy(stacks(mode, a, b))
			got, _ = c.do(s)
			scribble(got)
			if !same(s, stacks(mode, a, b)) {
				t.Errorf("%s: what it was handed changed with what it answered: %v", c.name, s)
			}
		}
	})
}

// TestListsOfAnAnswerAreTwo hands in one list as both.
func TestListsOfAnAnswerAreTwo(t *testing.T) {
	for size := 2; size < maxStack; size++ {
		for mode := range 2 {
			both := list(1, size)
			s := api.Stacks{Mode: mode, L: [2][]api.Mat{both, both}}
			for _, c := range calls() {
				got := must(t, s, c)
				want := slices.Clone(got.L[1])
				scribble(listed(got, 1))
				if !slices.Equal(got.L[1], want) {
					t.Errorf("%s: the lists of an answer are one: %v", c.name, got)
				}
				if !slices.Equal(both, list(1, size)) {
					t.Fatalf("%s: what it was handed changed with what it answered: %v", c.name, both)
				}
			}
		}
	}
}

// TestBranches goes on from one and the same Stacks by two ways, each of which must find it as it was.
func TestBranches(t *testing.T) {
	push := call{"Push", Push}
	for mode := range 2 {
		for size := 1; size < maxStack; size++ {
			s := stacks(mode, size, size)
			first := must(t, s, push, load(unlike(400)))
			second := must(t, s, push, load(unlike(401)))
			third := must(t, first, call{"Pop", Pop}, load(unlike(402)))
			checkTop(t, first, mode, unlike(400), api.OK)
			checkTop(t, second, mode, unlike(401), api.OK)
			checkTop(t, third, mode, unlike(402), api.OK)
			if !same(s, stacks(mode, size, size)) {
				t.Errorf("P6.3: changed by what was done with it: %v", s)
			}
			if l := first.L[mode]; l[size-1] != s.L[mode][size-1] {
				t.Errorf("P6.3: below the top of %v something changed: %v", s, l)
			}
		}
	}
}

// model is what the chapter's words say of Stacks, in arrays: nothing in it can be shared.
type model struct {
	mode  int
	size  [2]int
	lists [2][maxStack]api.Mat
}

func (m *model) top() *api.Mat {
	return &m.lists[m.mode][m.size[m.mode]-1]
}

func (m *model) stacks() api.Stacks {
	s := api.Stacks{Mode: m.mode}
	for i := range s.L {
		s.L[i] = slices.Clone(m.lists[i][:m.size[i]])
	}
	return s
}

func (m *model) push() api.Errno {
	if m.size[m.mode] == maxStack {
		return api.ErrStack
	}
	top := *m.top()
	m.size[m.mode]++
	*m.top() = top
	return api.OK
}

func (m *model) pop() api.Errno {
	if m.size[m.mode] == 1 {
		return api.ErrStack
	}
	m.size[m.mode]--
	return api.OK
}

func (m *model) mult(a api.Mat) api.Errno {
	p, ok := product(*m.top(), a)
	if !ok {
		return api.ErrRange
	}
	*m.top() = p
	return api.OK
}

// chance is a row of numbers that look like chance and are the same at each run.
type chance uint64

// below is the next number, from 0 to n - 1.
func (c *chance) below(n int) int {
	*c ^= *c << 13
	*c ^= *c >> 7
	*c ^= *c << 17
	return int(*c>>33) % n
}

// mat is a matrix whose entries are from -most to most.
func (c *chance) mat(most int) api.Mat {
	var m api.Mat
	for i := range m {
		m[i] = c.below(2*most+1) - most
	}
	return m
}

// some is a call, and what the model must become by it.
func (c *chance) some(m *model) (call, api.Errno) {
	switch c.below(7) {
	case 0, 1:
		return call{"Push", Push}, m.push()
	case 2:
		return call{"Pop", Pop}, m.pop()
	case 3:
		m.mode = c.below(2)
		return choose(m.mode), api.OK
	case 4:
		a := c.mat(1 << (1 + c.below(22)))
		*m.top() = a
		return load(a), api.OK
	default:
		a := c.mat(1 << (10 + c.below(15)))
		return mult(a), m.mult(a)
	}
}

// TestRowsOfCalls holds long rows of calls, errors between, against the model.
func TestRowsOfCalls(t *testing.T) {
	c := chance(18)
	met := map[api.Errno]int{}
	for range 60 {
		m := model{size: [2]int{1, 1}, lists: [2][maxStack]api.Mat{{unit}, {unit}}}
		s := New()
		for range 400 {
			kept := m.stacks()
			todo, wantErr := c.some(&m)
			met[wantErr]++
			if wantErr != api.OK {
				refused(t, todo, s, wantErr)
			} else {
				check(t, todo, s, m.stacks(), api.OK)
				s, _ = todo.do(s)
			}
			if !same(m.stacks(), s) || wantErr != api.OK && !same(kept, s) {
				t.Fatalf("P6.2: %v, not %v", s, m.stacks())
			}
			checkTop(t, s, m.mode, *m.top(), api.OK)
			checkTop(t, s, 1-m.mode, s.L[1-m.mode][m.size[1-m.mode]-1], api.OK)
		}
	}
	for _, e := range []api.Errno{api.OK, api.ErrStack, api.ErrRange} {
		if met[e] < 200 {
			t.Errorf("%d was met %d times: too few to tell anything", e, met[e])
		}
	}
}
