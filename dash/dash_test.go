package dash

import (
	"math"
	"math/big"
	"slices"
	"strings"
	"testing"

	"rastrum/api"
)

const (
	farthest = 1 << 40 // the greatest Count, k and n, written out
	longest  = 1 << 16 // the greatest n of Runs
)

// of is the dash of these three numbers.
func of(pattern, repeat, count int) api.Dash {
	return api.Dash{Pattern: pattern, Repeat: repeat, Count: count}
}

// patterns are some with no bit set, with one, with some, with all but one, and with all.
func patterns() []int {
	l := []int{0, 65535, 5, 0x8001, 0xC003, 0x7FFE, 0x5555, 0xAAAA, 0x00FF, 0xFF00, 0xF00F, 0x0FF0, 0x1234, 0xB2E7, 0x8000 | 0x0180}
	for i := range 16 {
		l = append(l, 1<<i, 65535-1<<i)
	}
	return l
}

// repeats are from 1 to 256.
func repeats() []int {
	return []int{1, 2, 3, 4, 5, 7, 16, 17, 100, 255, 256}
}

// counts are some for a Repeat of r: about nought, inside a bit, about its ends, about the pattern's end, further, and at the bound.
func counts(r int) []int {
	return []int{0, 1, r - 1, r, r + 1, 2*r - 1, 7*r + r/2, 15 * r, 16*r - 1, 16 * r, 16*r + 1, 17*r - 1, 17 * r, 33*r + r/3,
		1600*r - 1, 1 << 20, 1<<32 - 1, 1 << 32, farthest - 16*r, farthest - r, farthest - 1, farthest}
}

// offsets are some k and n for a Repeat of r, of the same kinds.
func offsets(r int) []int {
	return []int{0, 1, 2, r - 1, r, r + 1, 5*r + r/2, 15 * r, 16*r - 1, 16 * r, 16*r + 1, 1000, 1<<31 - 1, 1 << 32, 1<<32 + 1,
		farthest - 16*r, farthest - 1, farthest}
}

// dashes are all that may be of these patterns, repeats and counts.
func dashes() []api.Dash {
	var l []api.Dash
	for _, r := range repeats() {
		for _, c := range counts(r) {
			for _, p := range patterns() {
				l = append(l, of(p, r, c))
			}
		}
	}
	return l
}

// chance is a row of numbers that look like chance and are the same at each run.
type chance uint64

// from is the next number from least to greatest.
func (c *chance) from(least, greatest int) int {
	*c ^= *c << 13
	*c ^= *c >> 7
	*c ^= *c << 17
	return least + int(*c>>1)%(greatest-least+1)
}

// dash is one that may be, of any kind.
func (c *chance) dash() api.Dash {
	far := []int{0, 20, 5000, 1 << 33, farthest}[c.from(0, 4)]
	return of(c.from(0, 65535), c.from(1, []int{3, 20, 256}[c.from(0, 2)]), c.from(0, far))
}

// ends are numbers further out than any that may be, of which some look right where bits are lost or sums run over.
func ends() []int {
	return []int{math.MinInt, math.MinInt + 1, math.MinInt + farthest, math.MaxInt - farthest, math.MaxInt - 1, math.MaxInt,
		1 << 62, -1 << 62, 1<<62 + 1, 1<<48 + 1, -farthest, 2*farthest + 1, 1 << 41}
}

// slowLit is what Lit must answer, by numbers without an end.
func slowLit(d api.Dash, k int) bool {
	n := new(big.Int).Add(big.NewInt(int64(d.Count)), big.NewInt(int64(k)))
	n.Div(n, big.NewInt(int64(d.Repeat)))
	n.Mod(n, big.NewInt(16))
	return big.NewInt(int64(d.Pattern)).Bit(int(n.Int64())) == 1
}

// slowCount is the Count that Next must answer, by numbers without an end.
func slowCount(d api.Dash, n int) int {
	sum := new(big.Int).Add(big.NewInt(int64(d.Count)), big.NewInt(int64(n)))
	return int(sum.Mod(sum, big.NewInt(int64(16*d.Repeat))).Int64())
}

// tape is which of the first n pixels are lit: the pattern's bits are written down once, each as often as it counts, and read from
// Count on, around and around.
func tape(d api.Dash, n int) []bool {
	var pattern []bool
	for rest := d.Pattern; len(pattern) < 16*d.Repeat; rest /= 2 {
		for range d.Repeat {
			pattern = append(pattern, rest%2 == 1)
		}
	}
	var l []bool
	for at := d.Count % len(pattern); len(l) < n; at = 0 {
		l = append(l, pattern[at:]...)
	}
	return l[:n]
}

// runsOf is what Runs must answer of these pixels: each begins where the one ahead is dark, and ends where the next one is.
func runsOf(l []bool) [][2]int {
	var begins, ends []int
	for i, lit := range l {
		if lit && (i == 0 || !l[i-1]) {
			begins = append(begins, i)
		}
		if lit && (i == len(l)-1 || !l[i+1]) {
			ends = append(ends, i+1)
		}
	}
	var runs [][2]int
	for i := range begins {
		runs = append(runs, [2]int{begins[i], ends[i]})
	}
	return runs
}

// written is pixels, written as # where they are lit, and as a point where they aren't.
func written(text string) []bool {
	var l []bool
	for _, r := range text {
		l = append(l, r == '#')
	}
	return l
}

func checkRight(t *testing.T, d api.Dash, want bool) {
	t.Helper()
	if got := Right(d); got != want {
		t.Errorf("P15.1: Right(%v): %v", d, got)
	}
}

func checkLit(t *testing.T, d api.Dash, k int, want bool) {
	t.Helper()
	if got := Lit(d, k); got != want {
		t.Errorf("P15.1: Lit(%v, %d): %v", d, k, got)
	}
}

func checkNext(t *testing.T, d api.Dash, n, want int) {
	t.Helper()
	if got := Next(d, n); got != of(d.Pattern, d.Repeat, want) {
		t.Errorf("P15.1: Next(%v, %d): %v, not with Count %d", d, n, got, want)
	}
}

func checkRuns(t *testing.T, d api.Dash, n int, want [][2]int) {
	t.Helper()
	if got := Runs(d, n); !slices.Equal(got, want) {
		t.Errorf("P15.2: Runs(%v, %d): %v, not %v", d, n, got, want)
	}
}

func TestExample(t *testing.T) {
	d := of(5, 2, 0)
	for k := range 32 {
		checkLit(t, d, k, k == 0 || k == 1 || k == 4 || k == 5)
	}
	checkRuns(t, d, 9, [][2]int{{0, 2}, {4, 6}})
}

func TestRight(t *testing.T) {
	for _, d := range dashes() {
		checkRight(t, d, true)
	}
	for p := range 65536 {
		checkRight(t, of(p, 1, 0), true)
	}
	for r := 1; r <= 256; r++ {
		checkRight(t, of(0, r, farthest), true)
	}
	good := []api.Dash{of(0, 1, 0), of(65535, 256, farthest), of(5, 2, 3), of(0, 256, 0), of(65535, 1, farthest), {Repeat: 7}}
	for _, d := range good {
		checkRight(t, d, true)
		for _, n := range append(ends(), -1, -2, -65535, -65536, 65536, 65537, 1<<17, 1<<32, 1<<32+5, farthest) {
			checkRight(t, of(n, d.Repeat, d.Count), false)
		}
		for _, n := range append(ends(), 0, -1, -2, -256, 257, 258, 512, 65536, 1<<32+1, 1<<32+256, farthest) {
			checkRight(t, of(d.Pattern, n, d.Count), false)
		}
		for _, n := range append(ends(), -1, -2, -256, farthest+1, farthest+2) {
			checkRight(t, of(d.Pattern, d.Repeat, n), false)
		}
	}
	checkRight(t, api.Dash{}, false)
}

// TestRightAtAllEdges has all three numbers at the edges, beside them, and at the ends of int, each alone and together.
func TestRightAtAllEdges(t *testing.T) {
	l := append(ends(), -2, -1, 0, 1, 2, 255, 256, 257, 65534, 65535, 65536, 65537, farthest-1, farthest, farthest+1)
	good := 0
	for _, p := range l {
		for _, r := range l {
			for _, c := range l {
				want := !(p < 0 || p > 65535 || r < 1 || r > 256 || c < 0 || c > 1099511627776)
				checkRight(t, of(p, r, c), want)
				if want {
					good++
				}
			}
		}
	}
	if good != 8*4*12 {
		t.Errorf("of all edges %d may be, not %d", good, 8*4*12)
	}
}

// TestAsWritten has dashes whose first pixels are written out, those that go over the end of the pattern among them.
func TestAsWritten(t *testing.T) {
	cases := []struct {
		d    api.Dash
		text string
	}{
		{of(0, 1, 0), "...................."},
		{of(65535, 1, 0), "####################"},
		{of(1, 1, 0), "#...............#...............#"},
		{of(0x8000, 1, 0), "...............#...............#."},
		{of(0x8001, 1, 0), "#..............##..............##"},
		{of(65534, 1, 0), ".###############.###############."},
		{of(0x7FFF, 1, 0), "###############.###############.#"},
		{of(0x5555, 1, 0), "#.#.#.#.#.#.#.#.#.#.#.#.#.#.#.#.#"},
		{of(0x5555, 1, 1), ".#.#.#.#.#.#.#.#.#.#.#.#.#.#.#.#."},
		{of(5, 2, 0), "##..##..........................##..##.."},
		{of(5, 2, 1), "#..##..........................##..##.."},
		{of(5, 2, 2), "..##..........................##..##...."},
		{of(5, 2, 5), "#..........................##..##..."},
		{of(5, 2, 6), "..........................##..##...."},
		{of(5, 2, 31), ".##..##..........................##."},
		{of(5, 2, 32), "##..##..........................##.."},
		{of(5, 2, 33), "#..##..........................##..#"},
		{of(5, 2, 3203), ".##..........................##..##."},
		{of(0xC003, 3, 40), "..############...................................."},
		{of(0xC003, 3, 45), "#########....................................######"},
		{of(2, 3, 0), "...###....................."},
		{of(2, 3, 2), ".###......................."},
		{of(2, 3, 3), "###........................"},
		{of(2, 3, 5), "#.........................."},
		{of(2, 3, 50), ".###......................."},
		{of(0x2000, 4, 50), "..####............"},
		// Of 2^40 pixels these are left behind the last whole pattern: none, 16, 14, 256, and 16 again.
		{of(3, 1, farthest), "##..............##..............##"},
		{of(0x60, 3, farthest), "#####..............."},
		{of(0x60, 3, farthest-2), ".######............."},
		{of(3, 255, farthest), strings.Repeat("#", 254) + "..."},
		{of(0x14, 5, farthest), "....#####........"},
		// No bit of a pattern with all but one.
		{of(65535-1<<9, 2, 17), "#..###########"},
	}
	for _, c := range cases {
		want := written(c.text)
		for k, lit := range want {
			checkLit(t, c.d, k, lit)
		}
		for n := range len(want) + 1 {
			checkRuns(t, c.d, n, runsOf(want[:n]))
		}
	}
}

// TestLit holds Lit against numbers without an end, for dashes and pixels of all kinds, up to 2^40 of both.
func TestLit(t *testing.T) {
	for _, d := range dashes() {
		for _, k := range offsets(d.Repeat) {
			checkLit(t, d, k, slowLit(d, k))
		}
	}
	c := chance(1)
	for range 50000 {
		d := c.dash()
		k := c.from(0, []int{5, 300, 10000, farthest}[c.from(0, 3)])
		checkLit(t, d, k, slowLit(d, k))
	}
}

// TestEachBit has a pattern with one bit, and with all but one: just that bit's pixels are lit, or dark, in each go of the pattern.
func TestEachBit(t *testing.T) {
	for _, r := range repeats() {
		for bit := range 16 {
			for k := range 3 * 16 * r {
				inBit := k%(16*r) >= bit*r && k%(16*r) < (bit+1)*r
				checkLit(t, of(1<<bit, r, 0), k, inBit)
				checkLit(t, of(65535-1<<bit, r, 0), k, !inBit)
			}
			// Its first pixel, its last one, and those beside them, told by Count and by k.
			for _, at := range []int{bit * r, bit*r + r - 1, bit*r - 1 + 16*r, bit*r + r} {
				inBit := at == bit*r || at == bit*r+r-1
				checkLit(t, of(1<<bit, r, at), 0, inBit)
				checkLit(t, of(1<<bit, r, 0), at, inBit)
				checkLit(t, of(65535-1<<bit, r, at), 0, !inBit)
				checkLit(t, of(65535-1<<bit, r, at), 16*r, !inBit)
			}
		}
	}
}

func TestEachPattern(t *testing.T) {
	for p := range 65536 {
		d := of(p, 1+p%3, p%53)
		want := tape(d, 50)
		for k, lit := range want {
			checkLit(t, d, k, lit)
		}
		checkRuns(t, d, len(want), runsOf(want))
	}
}

func TestNext(t *testing.T) {
	cases := []struct {
		repeat, count, n, want int
	}{
		{1, 0, 0, 0}, {1, 0, 1, 1}, {1, 0, 15, 15}, {1, 0, 16, 0}, {1, 0, 17, 1}, {1, 15, 1, 0}, {1, 16, 0, 0}, {1, 9, 9, 2},
		{2, 0, 31, 31}, {2, 0, 32, 0}, {2, 0, 33, 1}, {2, 31, 1, 0}, {2, 32, 0, 0}, {2, 33, 31, 0}, {2, 100, 100, 8},
		{3, 5, 42, 47}, {3, 5, 43, 0}, {3, 47, 48, 47}, {3, 48, 48, 0}, {3, 1000, 0, 40},
		{256, 0, 4095, 4095}, {256, 0, 4096, 0}, {256, 0, 4097, 1}, {256, 4095, 0, 4095}, {256, 4095, 1, 0}, {256, 8191, 4097, 0},
		// The greatest ones, alone and together.
		{1, farthest, 0, 0}, {1, 0, farthest, 0}, {1, farthest, farthest, 0}, {1, farthest - 1, farthest, 15}, {1, farthest, 1, 1},
		{3, farthest, 0, 16}, {3, 0, farthest, 16}, {3, farthest, 1, 17}, {3, farthest, 32, 0}, {3, farthest, farthest, 32},
		{3, farthest - 1, farthest - 1, 30}, {5, farthest, farthest, 32}, {7, farthest, farthest, 32}, {255, farthest, 0, 256},
		{255, farthest, farthest, 512}, {256, farthest, farthest, 0}, {256, farthest, farthest - 1, 4095},
	}
	for _, c := range cases {
		for _, p := range []int{0, 5, 65535} {
			checkNext(t, of(p, c.repeat, c.count), c.n, c.want)
		}
	}
	for _, d := range dashes() {
		for _, n := range offsets(d.Repeat) {
			checkNext(t, d, n, slowCount(d, n))
		}
	}
	c := chance(2)
	for range 50000 {
		d := c.dash()
		n := c.from(0, []int{5, 300, 10000, farthest}[c.from(0, 3)])
		checkNext(t, d, n, slowCount(d, n))
	}
}

func TestRunsAsWritten(t *testing.T) {
	cases := []struct {
		d    api.Dash
		n    int
		want [][2]int
	}{
		// Of no pixel, and of one.
		{of(65535, 1, 0), 0, nil}, {of(0, 1, 0), 1, nil}, {of(1, 1, 0), 1, [][2]int{{0, 1}}}, {of(2, 1, 0), 1, nil}, {of(2, 1, 1), 1, [][2]int{{0, 1}}},
		// Of the first ones, the last ones, all, and none.
		{of(7, 1, 0), 16, [][2]int{{0, 3}}}, {of(0xE000, 1, 0), 16, [][2]int{{13, 16}}}, {of(65535, 1, 0), 16, [][2]int{{0, 16}}},
		{of(65535, 256, farthest), 9999, [][2]int{{0, 9999}}}, {of(0, 256, farthest), 9999, nil}, {of(0x00F0, 1, 0), 4, nil},
		{of(0x00F0, 1, 0), 5, [][2]int{{4, 5}}}, {of(0x00F0, 1, 0), 8, [][2]int{{4, 8}}}, {of(0x00F0, 1, 0), 9, [][2]int{{4, 8}}},
		// From the pattern's end on into its begin: one run, not two.
		{of(0x8001, 1, 0), 17, [][2]int{{0, 1}, {15, 17}}}, {of(0x8001, 1, 15), 17, [][2]int{{0, 2}, {16, 17}}},
		{of(0xC003, 4, 0), 128, [][2]int{{0, 8}, {56, 72}, {120, 128}}}, {of(0xFFFE, 2, 31), 35, [][2]int{{0, 1}, {3, 33}}},
		// A pattern less one pixel, whole, and one pixel more.
		{of(0x8001, 2, 0), 31, [][2]int{{0, 2}, {30, 31}}}, {of(0x8001, 2, 0), 32, [][2]int{{0, 2}, {30, 32}}},
		{of(0x8001, 2, 0), 33, [][2]int{{0, 2}, {30, 33}}}, {of(0x8001, 2, 0), 34, [][2]int{{0, 2}, {30, 34}}},
		{of(0x8001, 2, 0), 35, [][2]int{{0, 2}, {30, 34}}},
		// All of 2^16 pixels, none, and each second one's last one.
		{of(65535, 1, 0), longest, [][2]int{{0, longest}}}, {of(0, 1, 7), longest, nil},
		{of(1, 256, 0), 4 * 4096, [][2]int{{0, 256}, {4096, 4352}, {8192, 8448}, {12288, 12544}}},
	}
	for _, c := range cases {
		checkRuns(t, c.d, c.n, c.want)
	}
}

// TestRuns holds Runs against what the pattern, written down, is lit of, and its answers against the chapter's words.
func TestRuns(t *testing.T) {
	for _, d := range dashes() {
		whole := 16 * d.Repeat
		want := tape(d, whole+1)
		for _, n := range []int{0, 1, 2, d.Repeat - 1, d.Repeat, d.Repeat + 1, whole - 1, whole, whole + 1} {
			checkRuns(t, d, n, runsOf(want[:n]))
			checkShape(t, d, n)
		}
	}
	c := chance(3)
	for range 3000 {
		d := c.dash()
		n := c.from(0, []int{5, 70, 3000}[c.from(0, 2)])
		checkRuns(t, d, n, runsOf(tape(d, n)))
		checkShape(t, d, n)
	}
}

// checkShape holds that runs rise, that none is empty, touches another one or leaves the first n pixels.
func checkShape(t *testing.T, d api.Dash, n int) {
	t.Helper()
	end := -1
	for _, run := range Runs(d, n) {
		if run[0] <= end || run[0] >= run[1] || run[1] > n {
			t.Errorf("P15.2: Runs(%v, %d): %v comes behind %d", d, n, run, end)
		}
		end = run[1]
	}
}

func TestLongestRuns(t *testing.T) {
	for _, r := range repeats() {
		for _, p := range []int{0, 65535, 0x5555, 0x8001, 5, 65535 - 1<<9} {
			for _, c := range []int{0, 5*r + r/2, farthest} {
				d := of(p, r, c)
				want := runsOf(tape(d, longest))
				for _, n := range []int{longest - 1, longest} {
					checkRuns(t, d, n, runsOf(tape(d, n)))
				}
				checkShape(t, d, longest)
				if p == 0x5555 && r == 1 && len(want) != longest/2 {
					t.Errorf("of each second pixel there are %d runs: too few to tell anything", len(want))
				}
			}
		}
	}
}

// TestRunsAreWhatIsLit holds Runs against Lit.
func TestRunsAreWhatIsLit(t *testing.T) {
	c := chance(4)
	for range 2000 {
		d, n := c.dash(), c.from(0, 600)
		lit := make([]bool, n)
		for _, run := range Runs(d, n) {
			for k := run[0]; k < run[1]; k++ {
				lit[k] = true
			}
		}
		for k := range lit {
			if Lit(d, k) != lit[k] {
				t.Errorf("P15.2: Lit(%v, %d) is %v, by Runs %v", d, k, !lit[k], lit[k])
			}
		}
	}
}

// TestLater holds a dash against the same one, some pixels later.
func TestLater(t *testing.T) {
	c := chance(5)
	for range 20000 {
		d := c.dash()
		n := c.from(0, []int{1, 20, 5000, farthest}[c.from(0, 3)])
		later := Next(d, n)
		if !Right(later) || later.Count >= 16*d.Repeat {
			t.Errorf("P15.3: Next(%v, %d): %v", d, n, later)
		}
		for _, k := range []int{0, 1, 2, d.Repeat - 1, d.Repeat, 16*d.Repeat - 1, c.from(0, 9999), c.from(0, farthest)} {
			if n+k <= farthest && Lit(d, n+k) != Lit(later, k) {
				t.Errorf("P15.3: %v: the pixel %d isn't as, %d pixels later, %d", d, n+k, n, k)
			}
			if Next(later, k) != of(d.Pattern, d.Repeat, slowCount(d, n+k)) {
				t.Errorf("P15.3: %v, %d and %d pixels later: %v", d, n, k, Next(later, k))
			}
		}
	}
}

// TestAround holds that all is as it was behind a whole pattern.
func TestAround(t *testing.T) {
	for _, d := range dashes() {
		whole := 16 * d.Repeat
		if Next(d, whole) != Next(d, 0) || Next(Next(d, whole-1), 1) != Next(d, 0) || Next(d, 5*whole) != Next(d, 0) {
			t.Errorf("P15.3: %v isn't as it was %d pixels later: %v, not %v", d, whole, Next(d, whole), Next(d, 0))
		}
		for _, k := range offsets(d.Repeat) {
			if k+whole <= farthest && Lit(d, k) != Lit(d, k+whole) {
				t.Errorf("P15.3: %v: the pixel %d isn't as %d", d, k, k+whole)
			}
			if d.Count+whole <= farthest && Lit(d, k) != Lit(of(d.Pattern, d.Repeat, d.Count+whole), k) {
				t.Errorf("P15.3: %v: the pixel %d isn't as with Count %d", d, k, d.Count+whole)
			}
		}
		if n := whole + d.Repeat + 1; !slices.Equal(Runs(d, n), Runs(Next(d, whole), n)) {
			t.Errorf("P15.3: %v: the runs of %d pixels aren't those of %v", d, n, Next(d, whole))
		}
	}
}

// joined is runs, and behind them those of what comes n pixels later: where both touch there is one.
func joined(runs, later [][2]int, n int) [][2]int {
	for _, run := range later {
		if last := len(runs) - 1; last >= 0 && runs[last][1] == run[0]+n {
			runs[last][1] = run[1] + n
			continue
		}
		runs = append(runs, [2]int{run[0] + n, run[1] + n})
	}
	return runs
}

// TestParts holds the runs of many pixels against those of the first ones, and of the rest, by the dash that is later.
func TestParts(t *testing.T) {
	c := chance(6)
	for range 5000 {
		d, n, rest := c.dash(), c.from(0, 500), c.from(0, 500)
		want := Runs(d, n+rest)
		if got := joined(Runs(d, n), Runs(Next(d, n), rest), n); !slices.Equal(got, want) {
			t.Errorf("P15.3: %v, of %d pixels and %d more: %v, not %v", d, n, rest, got, want)
		}
	}
}

// TestAnswersAreNewMemory writes over what was answered, and asks again.
func TestAnswersAreNewMemory(t *testing.T) {
	d := of(5, 2, 0)
	for range 2 {
		runs := Runs(d, 40)
		if want := [][2]int{{0, 2}, {4, 6}, {32, 34}, {36, 38}}; !slices.Equal(runs, want) {
			t.Errorf("P15.2: Runs(%v, 40): %v, not %v", d, runs, want)
		}
		for i := range runs[:cap(runs)] {
			runs[:cap(runs)][i] = [2]int{7, 7}
		}
		later := Next(d, 3)
		later.Pattern = 0
		if d != of(5, 2, 0) {
			t.Errorf("P15.1: the dash that was handed in is %v", d)
		}
	}
}

// TestUnasked holds that nothing panics, and all ends, of dashes that may not be, and of numbers of pixels that may not be.
func TestUnasked(t *testing.T) {
	wrong := []api.Dash{{}, of(-1, 1, 0), of(65536, 1, 0), of(5, 0, 0), of(5, -1, 0), of(5, 257, 0), of(5, 1, -1), of(5, 1, farthest+1)}
	for _, n := range ends() {
		wrong = append(wrong, of(n, 1, 0), of(5, n, 0), of(5, 1, n), of(n, n, n))
	}
	for _, d := range wrong {
		for _, n := range append(ends(), -1, 0, 1, longest, farthest, farthest+1) {
			checkNothing(t, d, n)
		}
	}
	for _, n := range append(ends(), -1, farthest+1) {
		checkNothing(t, of(65535, 2, 3), n)
	}
}

// checkNothing holds that there is nothing of d and n.
func checkNothing(t *testing.T, d api.Dash, n int) {
	t.Helper()
	if Lit(d, n) || Next(d, n) != (api.Dash{}) || len(Runs(d, n)) > 0 {
		t.Errorf("there is something of %v and %d", d, n)
	}
}
