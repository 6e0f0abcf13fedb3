package build

import (
	"math"
	"slices"
	"testing"

	"rastrum/api"
)

const maxVerts = 256

// chance is a row of numbers that look like chance and are the same at each run.
type chance uint64

// bit is the next one.
func (c *chance) bit() bool {
	*c ^= *c << 13
	*c ^= *c >> 7
	*c ^= *c << 17
	return *c>>40&1 == 1
}

// mixed is n flags that look like chance: another row for each n and each seed.
func mixed(n, seed int) []bool {
	c := chance(n*1000 + seed + 1)
	for range 20 {
		c.bit()
	}
	l := make([]bool, n)
	for i := range l {
		l[i] = c.bit()
	}
	return l
}

// alike is n flags that are all b.
func alike(n int, b bool) []bool {
	l := make([]bool, n)
	for i := range l {
		l[i] = b
	}
	return l
}

// lone is n flags of which one alone is b.
func lone(n, at int, b bool) []bool {
	l := alike(n, !b)
	l[at] = b
	return l
}

// rows are flags of n vertices: set, not set, and mixed so that each may be told from each other by some row.
func rows(n int) [][]bool {
	l := [][]bool{alike(n, true), alike(n, false), mixed(n, 1), mixed(n, 2), mixed(n, 3)}
	for bit := range 9 {
		row := make([]bool, n)
		for i := range row {
			row[i] = i>>bit&1 == 1
		}
		l = append(l, row)
	}
	return l
}

// noModes are numbers that no mode is.
func noModes() []int {
	return []int{-1, 10, -2, 11, -10, 16, 1 << 8, 1<<8 + 1, 1 << 16, 1<<16 + 4, 1 << 32, 1<<32 + 1, 1<<32 + 9, -1 << 32,
		1 << 62, 1<<62 + 1, math.MaxInt, math.MaxInt - 1, math.MinInt, math.MinInt + 1, math.MinInt + 4}
}

// pick is one vertex or the other, by whether the first one provokes.
func pick(first bool, a, b int) int {
	if first {
		return a
	}
	return b
}

// flagsOf is the flags of the vertices v.
func flagsOf(v []int, flags []bool) []bool {
	var e []bool
	for _, k := range v {
		e = append(e, flags[k])
	}
	return e
}

// row is the i-th row of a mode by the chapter's table, whether or not its vertices are there.
func row(mode, i int, first bool) ([]int, int) {
	switch mode {
	case 0:
		return []int{i}, i
	case 1:
		return []int{2 * i, 2*i + 1}, pick(first, 2*i, 2*i+1)
	case 2, 3:
		return []int{i, i + 1}, pick(first, i, i+1)
	case 4:
		return []int{3 * i, 3*i + 1, 3*i + 2}, pick(first, 3*i, 3*i+2)
	case 5:
		if i&1 == 1 {
			return []int{i + 1, i, i + 2}, pick(first, i, i+2)
		}
		return []int{i, i + 1, i + 2}, pick(first, i, i+2)
	case 6:
		return []int{0, i + 1, i + 2}, pick(first, i+1, i+2)
	case 7:
		return []int{4 * i, 4*i + 1, 4*i + 2, 4*i + 3}, pick(first, 4*i, 4*i+3)
	}
	return []int{2 * i, 2*i + 1, 2*i + 3, 2*i + 2}, pick(first, 2*i, 2*i+3)
}

// model is what Prims must answer, by the chapter's table.
func model(mode int, flags []bool, first bool) []api.Prim {
	n := len(flags)
	if mode == 9 {
		if n < 3 {
			return nil
		}
		var v []int
		for k := range n {
			v = append(v, k)
		}
		return []api.Prim{{V: v, E: slices.Clone(flags), P: 0}}
	}
	var l []api.Prim
	for i := 0; ; i++ {
		v, p := row(mode, i, first)
		if slices.Max(v) >= n {
			break
		}
		l = append(l, api.Prim{V: v, E: edges(mode, v, flags), P: p})
	}
	if mode == 3 && n >= 2 {
		l = append(l, api.Prim{V: []int{n - 1, 0}, P: pick(first, n-1, 0)})
	}
	return l
}

// edges is E by the chapter's table.
func edges(mode int, v []int, flags []bool) []bool {
	switch mode {
	case 0, 1, 2, 3:
		return nil
	case 4, 7, 9:
		return flagsOf(v, flags)
	}
	return alike(len(v), true)
}

func samePrim(a, b api.Prim) bool {
	return slices.Equal(a.V, b.V) && slices.Equal(a.E, b.E) && a.P == b.P
}

func same(a, b []api.Prim) bool {
	return slices.EqualFunc(a, b, samePrim)
}

// copied is l in memory of its own.
func copied(l []api.Prim) []api.Prim {
	var c []api.Prim
	for _, p := range l {
		c = append(c, api.Prim{V: slices.Clone(p.V), E: slices.Clone(p.E), P: p.P})
	}
	return c
}

// check holds an answer of Prims, and what it was handed, against what they must be.
func check(t *testing.T, mode int, flags []bool, first bool, want []api.Prim) {
	t.Helper()
	before := slices.Clone(flags)
	got, e := Prims(mode, flags, first)
	if e != api.OK || !same(got, want) {
		t.Errorf("P7.1: Prims(%d, %v, %v): %v, %d; not %v", mode, flags, first, got, e, want)
	}
	if !slices.Equal(flags, before) {
		t.Errorf("P7.1: Prims(%d, ..) changed the flags %v to %v", mode, before, flags)
	}
	if n := Count(mode, len(flags)); n != len(want) {
		t.Errorf("P7.1: Count(%d, %d): %d, not %d", mode, len(flags), n, len(want))
	}
}

// refused holds that Prims answers nothing but an error.
func refused(t *testing.T, mode int, flags []bool, first bool, want api.Errno) {
	t.Helper()
	if got, e := Prims(mode, flags, first); len(got) != 0 || e != want {
		t.Errorf("P7.1: Prims(%d, %d flags, %v): %v, %d; not %d", mode, len(flags), first, got, e, want)
	}
}

// must is for calls that have to go well.
func must(t *testing.T, mode int, flags []bool, first bool) []api.Prim {
	t.Helper()
	l, e := Prims(mode, flags, first)
	if e != api.OK {
		t.Fatalf("P7.1: Prims(%d, %v, %v): %d", mode, flags, first, e)
	}
	return l
}

// each does something for each mode, both ways, and each number of vertices.
func each(do func(mode, n int, first bool)) {
	for mode := range 10 {
		for n := range maxVerts + 1 {
			do(mode, n, true)
			do(mode, n, false)
		}
	}
}

// written is what a mode makes of vertices whose flags are given by letters: y set, n not.
type written struct {
	mode  int
	flags string
	v     [][]int
	e     []string // of each primitive; "" where there is none
	first []int
	other []int
}

func letters(s string) []bool {
	var l []bool
	for _, r := range s {
		l = append(l, r == 'y')
	}
	return l
}

// prims is what is written, one of both ways.
func (w written) prims(first bool) []api.Prim {
	var l []api.Prim
	for i, v := range w.v {
		p := w.other[i]
		if first {
			p = w.first[i]
		}
		l = append(l, api.Prim{V: v, E: letters(w.e[i]), P: p})
	}
	return l
}

func TestLinesWritten(t *testing.T) {
	for _, w := range []written{
		{0, "", nil, nil, nil, nil},
		{0, "n", [][]int{{0}}, []string{""}, []int{0}, []int{0}},
		{0, "yny", [][]int{{0}, {1}, {2}}, []string{"", "", ""}, []int{0, 1, 2}, []int{0, 1, 2}},
		{1, "", nil, nil, nil, nil},
		{1, "y", nil, nil, nil, nil},
		{1, "yn", [][]int{{0, 1}}, []string{""}, []int{0}, []int{1}},
		{1, "yny", [][]int{{0, 1}}, []string{""}, []int{0}, []int{1}},
		{1, "ynyy", [][]int{{0, 1}, {2, 3}}, []string{"", ""}, []int{0, 2}, []int{1, 3}},
		{1, "ynyyn", [][]int{{0, 1}, {2, 3}}, []string{"", ""}, []int{0, 2}, []int{1, 3}},
		{2, "", nil, nil, nil, nil},
		{2, "y", nil, nil, nil, nil},
		{2, "yn", [][]int{{0, 1}}, []string{""}, []int{0}, []int{1}},
		{2, "yny", [][]int{{0, 1}, {1, 2}}, []string{"", ""}, []int{0, 1}, []int{1, 2}},
		{2, "nnyy", [][]int{{0, 1}, {1, 2}, {2, 3}}, []string{"", "", ""}, []int{0, 1, 2}, []int{1, 2, 3}},
		{3, "", nil, nil, nil, nil},
		{3, "y", nil, nil, nil, nil},
		{3, "yn", [][]int{{0, 1}, {1, 0}}, []string{"", ""}, []int{0, 1}, []int{1, 0}},
		{3, "yny", [][]int{{0, 1}, {1, 2}, {2, 0}}, []string{"", "", ""}, []int{0, 1, 2}, []int{1, 2, 0}},
		{3, "nyyn", [][]int{{0, 1}, {1, 2}, {2, 3}, {3, 0}}, []string{"", "", "", ""}, []int{0, 1, 2, 3}, []int{1, 2, 3, 0}},
	} {
		check(t, w.mode, letters(w.flags), true, w.prims(true))
		check(t, w.mode, letters(w.flags), false, w.prims(false))
	}
}

func TestFacesWritten(t *testing.T) {
	for _, w := range []written{
		{4, "", nil, nil, nil, nil},
		{4, "yn", nil, nil, nil, nil},
		{4, "ynn", [][]int{{0, 1, 2}}, []string{"ynn"}, []int{0}, []int{2}},
		{4, "nyyny", [][]int{{0, 1, 2}}, []string{"nyy"}, []int{0}, []int{2}},
		{4, "nyynny", [][]int{{0, 1, 2}, {3, 4, 5}}, []string{"nyy", "nny"}, []int{0, 3}, []int{2, 5}},
		{5, "", nil, nil, nil, nil},
		{5, "yy", nil, nil, nil, nil},
		{5, "nny", [][]int{{0, 1, 2}}, []string{"yyy"}, []int{0}, []int{2}},
		{5, "nnnn", [][]int{{0, 1, 2}, {2, 1, 3}}, []string{"yyy", "yyy"}, []int{0, 1}, []int{2, 3}},
		{5, "ynynyn", [][]int{{0, 1, 2}, {2, 1, 3}, {2, 3, 4}, {4, 3, 5}}, []string{"yyy", "yyy", "yyy", "yyy"}, []int{0, 1, 2, 3}, []int{2, 3, 4, 5}},
		{6, "", nil, nil, nil, nil},
		{6, "yy", nil, nil, nil, nil},
		{6, "nny", [][]int{{0, 1, 2}}, []string{"yyy"}, []int{1}, []int{2}},
		{6, "nynyn", [][]int{{0, 1, 2}, {0, 2, 3}, {0, 3, 4}}, []string{"yyy", "yyy", "yyy"}, []int{1, 2, 3}, []int{2, 3, 4}},
		{7, "", nil, nil, nil, nil},
		{7, "yny", nil, nil, nil, nil},
		{7, "nyyn", [][]int{{0, 1, 2, 3}}, []string{"nyyn"}, []int{0}, []int{3}},
		{7, "nyynyyn", [][]int{{0, 1, 2, 3}}, []string{"nyyn"}, []int{0}, []int{3}},
		{7, "nyynyyny", [][]int{{0, 1, 2, 3}, {4, 5, 6, 7}}, []string{"nyyn", "yyny"}, []int{0, 4}, []int{3, 7}},
		{8, "", nil, nil, nil, nil},
		{8, "yyy", nil, nil, nil, nil},
		{8, "nyyn", [][]int{{0, 1, 3, 2}}, []string{"yyyy"}, []int{0}, []int{3}},
		{8, "nynyn", [][]int{{0, 1, 3, 2}}, []string{"yyyy"}, []int{0}, []int{3}},
		{8, "nynynn", [][]int{{0, 1, 3, 2}, {2, 3, 5, 4}}, []string{"yyyy", "yyyy"}, []int{0, 2}, []int{3, 5}},
		{8, "nnnnnnnnn", [][]int{{0, 1, 3, 2}, {2, 3, 5, 4}, {4, 5, 7, 6}}, []string{"yyyy", "yyyy", "yyyy"}, []int{0, 2, 4}, []int{3, 5, 7}},
		{9, "", nil, nil, nil, nil},
		{9, "y", nil, nil, nil, nil},
		{9, "yn", nil, nil, nil, nil},
		{9, "yny", [][]int{{0, 1, 2}}, []string{"yny"}, []int{0}, []int{0}},
		{9, "nyynny", [][]int{{0, 1, 2, 3, 4, 5}}, []string{"nyynny"}, []int{0}, []int{0}},
	} {
		check(t, w.mode, letters(w.flags), true, w.prims(true))
		check(t, w.mode, letters(w.flags), false, w.prims(false))
	}
}

// TestEvery has each mode, both ways, of each number of vertices, by rows of flags that tell each vertex from each other where vertices are few or nearly too many.
func TestEvery(t *testing.T) {
	each(func(mode, n int, first bool) {
		l := rows(n)
		if n > 40 && n < 250 {
			l = l[:4]
		}
		for _, flags := range l {
			check(t, mode, flags, first, model(mode, flags, first))
		}
	})
}

// TestLoneFlags has each flag alone set, or alone not.
func TestLoneFlags(t *testing.T) {
	for mode := range 10 {
		for _, n := range []int{3, 4, 5, 7, 8, 9, 12, 13, maxVerts} {
			for at := range n {
				for _, b := range []bool{true, false} {
					flags := lone(n, at, b)
					check(t, mode, flags, at%2 == 0, model(mode, flags, at%2 == 0))
				}
			}
		}
	}
}

// TestNoVertex has no flags at all, nil or empty.
func TestNoVertex(t *testing.T) {
	for mode := range 10 {
		for _, first := range []bool{true, false} {
			check(t, mode, nil, first, nil)
			check(t, mode, []bool{}, first, nil)
			check(t, mode, mixed(9, 1)[:0], first, nil)
		}
	}
}

// needs are how many vertices a mode's first primitive needs, and how many more each further one.
func needs() [10][2]int {
	return [10][2]int{{1, 1}, {2, 2}, {2, 1}, {2, 1}, {3, 3}, {3, 1}, {3, 1}, {4, 4}, {4, 2}, {3, 1000}}
}

func TestEdgesOfCount(t *testing.T) {
	for mode, need := range needs() {
		for n := range maxVerts + 1 {
			want := 0
			for at := need[0]; at <= n; at += need[1] {
				want++
			}
			if mode == 3 && n >= 2 {
				want++
			}
			if got := Count(mode, n); got != want {
				t.Errorf("P7.1: Count(%d, %d): %d, not %d", mode, n, got, want)
			}
			for _, first := range []bool{true, false} {
				if got := must(t, mode, mixed(n, 4), first); len(got) != want {
					t.Errorf("P7.1: Prims(%d, %d flags, %v): %d primitives, not %d", mode, n, first, len(got), want)
				}
			}
		}
	}
}

// TestMost has as many vertices as there may be.
func TestMost(t *testing.T) {
	for mode, want := range []int{256, 128, 255, 256, 85, 254, 254, 64, 127, 1} {
		if got := Count(mode, maxVerts); got != want {
			t.Errorf("P7.1: Count(%d, %d): %d, not %d", mode, maxVerts, got, want)
		}
		for _, first := range []bool{true, false} {
			l := must(t, mode, mixed(maxVerts, mode), first)
			if len(l) != want {
				t.Errorf("P7.1: Prims(%d, %d flags, %v): %d primitives, not %d", mode, maxVerts, first, len(l), want)
			}
		}
	}
}

func TestWrongCount(t *testing.T) {
	wrong := []int{0, -1, -2, -3, -4, -255, -256, -257, maxVerts + 1, maxVerts + 2, maxVerts + 3, maxVerts + 4, 2 * maxVerts, 1 << 16, 1<<16 + 3,
		1 << 32, 1<<32 + 3, -1 << 32, 1<<32 - 1, 1 << 62, math.MaxInt, math.MaxInt - 1, math.MinInt, math.MinInt + 1, math.MinInt + 3, math.MinInt + 256}
	for mode := range 10 {
		for _, n := range wrong {
			if got := Count(mode, n); got != 0 {
				t.Errorf("P7.1: Count(%d, %d): %d, not 0", mode, n, got)
			}
		}
	}
	for _, mode := range noModes() {
		for _, n := range append(wrong, 1, 2, 3, 4, 5, 100, 255, 256) {
			if got := Count(mode, n); got != 0 {
				t.Errorf("P7.1: Count(%d, %d): %d, not 0", mode, n, got)
			}
		}
	}
}

func TestWrongPrims(t *testing.T) {
	for _, first := range []bool{true, false} {
		for _, mode := range noModes() {
			// With too many flags too: the mode is named first.
			for _, n := range []int{0, 1, 2, 3, 4, 5, 255, 256, 257, 258, 512, 1<<16 + 3} {
				refused(t, mode, alike(n, true), first, api.ErrArg)
				refused(t, mode, mixed(n, 1), first, api.ErrArg)
			}
			refused(t, mode, nil, first, api.ErrArg)
		}
		for mode := range 10 {
			for _, n := range []int{257, 258, 259, 260, 261, 511, 512, 513, 1 << 16, 1<<16 + 3} {
				refused(t, mode, alike(n, false), first, api.ErrFull)
				refused(t, mode, mixed(n, 1), first, api.ErrFull)
			}
			flags := mixed(maxVerts+1, 2)
			check(t, mode, flags[:maxVerts], first, model(mode, flags[:maxVerts], first))
		}
	}
}

// TestEdgeLists holds when E is none, and that it is as long as V where it isn't.
func TestEdgeLists(t *testing.T) {
	each(func(mode, n int, first bool) {
		for _, flags := range [][]bool{alike(n, true), alike(n, false), mixed(n, 5)} {
			for i, p := range must(t, mode, flags, first) {
				want := edges(mode, p.V, flags)
				if mode < 4 && len(p.E) != 0 || mode >= 4 && len(p.E) != len(p.V) || !slices.Equal(p.E, want) {
					t.Errorf("P7.1: Prims(%d, %v, %v), %d: edges %v, not %v", mode, flags, first, i, p.E, want)
				}
			}
		}
	})
}

func TestBounds(t *testing.T) {
	sizes := []int{1, 2, 2, 2, 3, 3, 3, 4, 4}
	each(func(mode, n int, first bool) {
		for i, p := range must(t, mode, mixed(n, 6), first) {
			if mode < 9 && len(p.V) != sizes[mode] || mode == 9 && len(p.V) != n {
				t.Errorf("P7.1: Prims(%d, %d flags, %v), %d: vertices %v", mode, n, first, i, p.V)
			}
			for k, v := range p.V {
				if v < 0 || v >= n || slices.Contains(p.V[:k], v) {
					t.Errorf("P7.1: Prims(%d, %d flags, %v), %d: vertices %v", mode, n, first, i, p.V)
				}
			}
		}
	})
}

func TestProvoked(t *testing.T) {
	each(func(mode, n int, first bool) {
		by := map[int]int{}
		for i, p := range must(t, mode, mixed(n, 7), first) {
			if !slices.Contains(p.V, p.P) {
				t.Errorf("P7.2: Prims(%d, %d flags, %v), %d: %v provoked by %d", mode, n, first, i, p.V, p.P)
			}
			if by[p.P]++; by[p.P] > 1 {
				t.Errorf("P7.2: Prims(%d, %d flags, %v): vertex %d provokes twice", mode, n, first, p.P)
			}
		}
	})
}

func TestBothWays(t *testing.T) {
	for mode := range 10 {
		for n := range maxVerts + 1 {
			flags := mixed(n, 8)
			a, b := must(t, mode, flags, true), must(t, mode, flags, false)
			for i := range b {
				b[i].P = a[i].P
			}
			if !same(a, b) {
				t.Errorf("P7.2: Prims(%d, %d flags, ..): both ways differ in vertices or edges: %v, %v", mode, n, a, b)
			}
		}
	}
}

// goes tells whether a primitive has a side from a to b.
func goes(v []int, a, b int) bool {
	for i := range v {
		if v[i] == a && v[(i+1)%len(v)] == b {
			return true
		}
	}
	return false
}

// common is the vertices that are in both.
func common(a, b []int) []int {
	var l []int
	for _, k := range a {
		if slices.Contains(b, k) {
			l = append(l, k)
		}
	}
	return l
}

// TestOpposite has strips of triangles, of quads and fans: neighbours turn the same way, and so go along their common side in opposite directions.
func TestOpposite(t *testing.T) {
	for _, mode := range []int{5, 6, 8} {
		for n := range maxVerts + 1 {
			l := must(t, mode, mixed(n, 9), n%2 == 0)
			for i := 1; i < len(l); i++ {
				a, b := l[i-1].V, l[i].V
				k := common(a, b)
				if len(k) != 2 {
					t.Fatalf("P7.2: Prims(%d, %d flags, ..): %v and %v have %v in common", mode, n, a, b, k)
				}
				if goes(a, k[0], k[1]) == goes(b, k[0], k[1]) || goes(a, k[1], k[0]) == goes(b, k[1], k[0]) {
					t.Errorf("P7.2: Prims(%d, %d flags, ..): %v and %v go along %v in one direction", mode, n, a, b, k)
				}
			}
		}
	}
}

// TestKept holds that what was handed in, and its spare room, stays, and that an answer stays whatever is written into that.
func TestKept(t *testing.T) {
	each(func(mode, n int, first bool) {
		all := mixed(n+5, 10)
		flags, before := all[:n], slices.Clone(all)
		got := must(t, mode, flags, first)
		want := model(mode, flags, first)
		if !slices.Equal(all, before) {
			t.Fatalf("P7.1: Prims(%d, %d flags, %v) changed the flags or their spare room", mode, n, first)
		}
		for i := range all {
			all[i] = !all[i]
		}
		if !same(got, want) {
			t.Errorf("P7.1: Prims(%d, %d flags, %v): %v changed with the flags", mode, n, first, got)
		}
		kept := copied(got)
		again := must(t, mode, flags, first)
		scribble(again)
		if !same(got, kept) {
			t.Errorf("P7.1: Prims(%d, %d flags, %v): one answer changed with another", mode, n, first)
		}
		if again, want := must(t, mode, before[:n], first), want; !same(again, want) {
			t.Errorf("P7.1: Prims(%d, %d flags, %v): another answer behind a write into an elder one: %v, not %v", mode, n, first, again, want)
		}
		if n > 40 {
			return
		}
		for i := range got {
			alone(t, got, i)
		}
	})
}

// scribble writes over all lists of an answer, and their spare room.
func scribble(l []api.Prim) {
	for _, p := range l {
		for i := range p.V[:cap(p.V)] {
			p.V[:cap(p.V)][i] = -77
		}
		for i, b := range p.E[:cap(p.E)] {
			p.E[:cap(p.E)][i] = !b
		}
	}
}

// alone holds that to write into one primitive's lists and their spare room leaves all other lists.
func alone(t *testing.T, l []api.Prim, i int) {
	t.Helper()
	kept := copied(l)
	scribble(l[i : i+1])
	l[i].V, l[i].E = slices.Clone(kept[i].V), slices.Clone(kept[i].E)
	if !same(l, kept) {
		t.Errorf("P7.1: two lists of one answer are one memory: %v, not %v", l, kept)
	}
}
