package mat

import (
	"math"
	"math/big"
	"testing"

	"rastrum/api"
)

const (
	one     = 65536
	maxMat  = 1 << 28
	maxClip = 1 << 36
)

var (
	none = api.Mat{}
	unit = api.Mat{
		one, 0, 0, 0,
		0, one, 0, 0,
		0, 0, one, 0,
		0, 0, 0, one,
	}
	// unlike has sixteen entries of which no two are the same.
	unlike = api.Mat{
		1, 2, 3, 4,
		5, 6, 7, 8,
		9, 10, 11, 12,
		13, 14, 15, 16,
	}
)

// filled is the matrix all of whose entries are n.
func filled(n int) api.Mat {
	var m api.Mat
	for i := range m {
		m[i] = n
	}
	return m
}

// with is m, its i-th entry being n.
func with(m api.Mat, i, n int) api.Mat {
	m[i] = n
	return m
}

// times is m, each entry times n.
func times(m api.Mat, n int) api.Mat {
	for i := range m {
		m[i] *= n
	}
	return m
}

// put is v, its i-th number being n.
func put(v [4]int, i, n int) [4]int {
	v[i] = n
	return v
}

// outside are numbers that no entry may be: one beyond the bounds, further out, and the ends of an int.
func outside() []int {
	return []int{maxMat + 1, -maxMat - 1, 1 << 32, -1 << 32, 1<<32 + 1, 1<<62 + 1, maxClip, math.MaxInt, math.MinInt, math.MinInt + 1}
}

// chance is a row of numbers that look like chance and are the same at each run.
type chance uint64

// below is the next number, from -2^bits to 2^bits - 1.
func (c *chance) below(bits int) int {
	*c ^= *c << 13
	*c ^= *c >> 7
	*c ^= *c << 17
	return int(*c) >> (63 - bits)
}

func (c *chance) mat(bits int) api.Mat {
	var m api.Mat
	for i := range m {
		m[i] = c.below(bits)
	}
	return m
}

func (c *chance) four(bits int) [4]int {
	var v [4]int
	for i := range v {
		v[i] = c.below(bits)
	}
	return v
}

// sum is, by the chapter's words, the sum of products divided by One, rounded down, of numbers without an end.
func sum(a, b [4]int) *big.Int {
	s := new(big.Int)
	for i := range a {
		s.Add(s, new(big.Int).Mul(big.NewInt(int64(a[i])), big.NewInt(int64(b[i]))))
	}
	// Euclid's quotient by a divisor above 0 is rounded down.
	q, _ := s.DivMod(s, big.NewInt(one), new(big.Int))
	return q
}

// inside tells whether n is from -most to most.
func inside(n *big.Int, most int) bool {
	return n.CmpAbs(big.NewInt(int64(most))) <= 0
}

func slowApply(m api.Mat, v [4]int, most int) ([4]int, api.Errno) {
	var w [4]int
	for i := range 4 {
		n := sum([4]int(m[4*i:]), v)
		if !inside(n, most) {
			return [4]int{}, api.ErrRange
		}
		w[i] = int(n.Int64())
	}
	return w, api.OK
}

func slowMul(a, b api.Mat) (api.Mat, api.Errno) {
	var m api.Mat
	for i := range 16 {
		k := i % 4
		n := sum([4]int(a[i-k:]), [4]int{b[k], b[k+4], b[k+8], b[k+12]})
		if !inside(n, maxMat) {
			return none, api.ErrRange
		}
		m[i] = int(n.Int64())
	}
	return m, api.OK
}

func checkMul(t *testing.T, a, b, want api.Mat, wantErr api.Errno) {
	t.Helper()
	if m, e := Mul(a, b); m != want || e != wantErr {
		t.Errorf("P5.2: Mul(%v, %v): %v, %d; not %v, %d", a, b, m, e, want, wantErr)
	}
}

func checkApply(t *testing.T, m api.Mat, v [4]int, most int, want [4]int, wantErr api.Errno) {
	t.Helper()
	if w, e := Apply(m, v, most); w != want || e != wantErr {
		t.Errorf("P5.2: Apply(%v, %v, %d): %v, %d; not %v, %d", m, v, most, w, e, want, wantErr)
	}
}

// mul and apply are for what must go well.
func mul(t *testing.T, a, b api.Mat) api.Mat {
	t.Helper()
	m, e := Mul(a, b)
	if e != api.OK {
		t.Fatalf("Mul(%v, %v): %d", a, b, e)
	}
	return m
}

func apply(t *testing.T, m api.Mat, v [4]int) [4]int {
	t.Helper()
	w, e := Apply(m, v, maxClip)
	if e != api.OK {
		t.Fatalf("Apply(%v, %v): %d", m, v, e)
	}
	return w
}

func move(t *testing.T, x, y, z int) api.Mat {
	t.Helper()
	m, e := Move(x, y, z)
	if e != api.OK {
		t.Fatalf("P5.3: Move(%d, %d, %d): %d", x, y, z, e)
	}
	return m
}

func turn(t *testing.T, axis, quarters int) api.Mat {
	t.Helper()
	m, e := Turn(axis, quarters)
	if e != api.OK {
		t.Fatalf("P5.3: Turn(%d, %d): %d", axis, quarters, e)
	}
	return m
}

func TestUnit(t *testing.T) {
	if m := Unit(); m != unit {
		t.Errorf("P5.1: Unit(): %v", m)
	}
}

func TestRight(t *testing.T) {
	for _, m := range []api.Mat{none, unit, unlike, times(unlike, -1), filled(maxMat), filled(-maxMat)} {
		if !Right(m) {
			t.Errorf("P5.1: %v may not be", m)
		}
		for i := range m {
			for _, n := range []int{maxMat, -maxMat, maxMat - 1, 1 - maxMat, 0} {
				if !Right(with(m, i, n)) {
					t.Errorf("P5.1: %d may not be entry %d of %v", n, i, m)
				}
			}
			for _, n := range outside() {
				if Right(with(m, i, n)) {
					t.Errorf("P5.1: %d may be entry %d of %v", n, i, m)
				}
			}
		}
	}
	for _, n := range outside() {
		if Right(filled(n)) {
			t.Errorf("P5.1: a matrix of %d alone may be", n)
		}
	}
}

func TestFlip(t *testing.T) {
	want := api.Mat{
		1, 5, 9, 13,
		2, 6, 10, 14,
		3, 7, 11, 15,
		4, 8, 12, 16,
	}
	if m := Flip(unlike); m != want {
		t.Errorf("P5.1: Flip(%v): %v", unlike, m)
	}
	if m := Flip(unit); m != unit {
		t.Errorf("P5.1: Flip of Unit: %v", m)
	}
	// It is asked of matrices that may not be, too.
	ends := with(with(unlike, 1, math.MinInt), 11, math.MaxInt)
	if m := Flip(ends); m != with(with(want, 4, math.MinInt), 14, math.MaxInt) {
		t.Errorf("P5.1: Flip(%v): %v", ends, m)
	}
	c := chance(1)
	for range 100 {
		m := c.mat(63)
		f := Flip(m)
		for i := range 16 {
			if f[i%4*4+i/4] != m[i] {
				t.Errorf("P5.1: Flip(%v): %v", m, f)
			}
		}
		if Flip(f) != m {
			t.Errorf("P5.1: Flip of Flip of %v: %v", m, Flip(f))
		}
	}
}

func TestMul(t *testing.T) {
	checkMul(t, unit, unit, unit, api.OK)
	checkMul(t, unlike, none, none, api.OK)
	checkMul(t, none, unlike, none, api.OK)
	checkMul(t, times(unlike, one), times(unlike, one), times(api.Mat{
		90, 100, 110, 120,
		202, 228, 254, 280,
		314, 356, 398, 440,
		426, 484, 542, 600,
	}, one), api.OK)
	checkMul(t, times(unlike, one), times(Flip(unlike), one), times(api.Mat{
		30, 70, 110, 150,
		70, 174, 278, 382,
		110, 278, 446, 614,
		150, 382, 614, 846,
	}, one), api.OK)
	for _, m := range []api.Mat{unlike, times(unlike, -12345), filled(maxMat), filled(-maxMat), filled(1), filled(-1)} {
		checkMul(t, m, unit, m, api.OK)
		checkMul(t, unit, m, m, api.OK)
	}
}

// TestMulOfSingleEntries holds that row i of the one and column k of the other make the entry there, and nothing else.
func TestMulOfSingleEntries(t *testing.T) {
	for i := range 16 {
		for k := range 16 {
			want := none
			if i%4 == k/4 {
				want[i/4*4+k%4] = 15
			}
			checkMul(t, with(none, i, 3*one), with(none, k, 5), want, api.OK)
		}
	}
}

func TestMulRoundsDown(t *testing.T) {
	cases := []struct{ a, b, want int }{
		{1, one, 1}, {1, one + 1, 1}, {1, one - 1, 0}, {1, 1, 0}, {2 * one, 3, 6}, {3, 32768, 1}, {3, 32767, 1},
		{-1, one, -1}, {-1, one + 1, -2}, {-1, one - 1, -1}, {-1, 1, -1}, {-2 * one, 3, -6}, {-3, 32768, -2}, {-3, 32767, -2},
		{1, -one, -1}, {1, -one - 1, -2}, {-1, -one, 1}, {-1, -one - 1, 1}, {-1, 1 - one, 0}, {0, maxMat, 0}, {0, -maxMat, 0},
	}
	for _, c := range cases {
		for i := range 4 {
			a, b := with(none, 5*i, c.a), with(none, 5*i, c.b)
			checkMul(t, a, b, with(none, 5*i, c.want), api.OK)
			checkApply(t, a, put([4]int{}, i, c.b), maxClip, put([4]int{}, i, c.want), api.OK)
		}
	}
	// The sum is divided, not each product: four halves are two, and four parts of a negative one lose just one.
	checkMul(t, filled(1), filled(32768), filled(2), api.OK)
	checkMul(t, filled(-1), filled(32769), filled(-3), api.OK)
	checkMul(t, filled(-1), filled(1), filled(-1), api.OK)
	checkApply(t, filled(1), [4]int{32768, 32768, 32767, 32768}, 9, [4]int{1, 1, 1, 1}, api.OK)
	checkApply(t, filled(-1), [4]int{one, one, one, one + 1}, 9, [4]int{-5, -5, -5, -5}, api.OK)
	checkApply(t, filled(1), [4]int{one, -1, 0, 0}, 9, [4]int{}, api.OK)
}

func TestMulOfWhatMayNotBe(t *testing.T) {
	for _, n := range outside() {
		for i := range 16 {
			for _, m := range []api.Mat{none, unit, unlike, filled(maxMat)} {
				bad := with(m, i, n)
				checkMul(t, bad, unit, none, api.ErrArg)
				checkMul(t, unit, bad, none, api.ErrArg)
				checkMul(t, bad, bad, none, api.ErrArg)
				// What the product would be doesn't matter: nothing, or too great.
				checkMul(t, bad, none, none, api.ErrArg)
				checkMul(t, none, bad, none, api.ErrArg)
				checkMul(t, bad, filled(maxMat), none, api.ErrArg)
				checkMul(t, filled(-maxMat), bad, none, api.ErrArg)
			}
		}
	}
}

// TestMulAtTheBounds has each entry of the product just at the bounds, and just beyond.
func TestMulAtTheBounds(t *testing.T) {
	for i := range 16 {
		// Just this entry of the product is made by more than nothing.
		row, column := i/4*4, i%4
		lay := func(a, b [4]int) (api.Mat, api.Mat) {
			x, y := none, none
			for k := range 4 {
				x[row+k], y[4*k+column] = a[k], b[k]
			}
			return x, y
		}
		cases := []struct {
			a, b [4]int
			want int
			e    api.Errno
		}{
			{[4]int{maxMat}, [4]int{one}, maxMat, api.OK},
			{[4]int{-maxMat}, [4]int{one}, -maxMat, api.OK},
			{[4]int{maxMat, one - 1}, [4]int{one, 1}, maxMat, api.OK},
			{[4]int{maxMat, 1}, [4]int{one, one}, 0, api.ErrRange},
			{[4]int{-maxMat, 1}, [4]int{one, -1}, 0, api.ErrRange},
			{[4]int{-maxMat, 1}, [4]int{one, 1}, -maxMat, api.OK},
			{[4]int{-maxMat, 1, 0, 1}, [4]int{one, -one, 0, one}, -maxMat, api.OK},
			{[4]int{maxMat, maxMat, maxMat, maxMat}, [4]int{maxMat, maxMat, maxMat, maxMat}, 0, api.ErrRange},
			{[4]int{maxMat, maxMat, maxMat, maxMat}, [4]int{-maxMat, -maxMat, -maxMat, -maxMat}, 0, api.ErrRange},
			{[4]int{maxMat, maxMat, -maxMat, -maxMat}, [4]int{maxMat, maxMat, maxMat, maxMat}, 0, api.OK},
			{[4]int{maxMat, maxMat, maxMat, one}, [4]int{maxMat, -maxMat, one, 0}, maxMat, api.OK},
			{[4]int{maxMat, maxMat, -maxMat, -1}, [4]int{-maxMat, maxMat, one, 1}, 0, api.ErrRange},
			{[4]int{maxMat}, [4]int{maxMat}, 0, api.ErrRange},
			{[4]int{maxMat}, [4]int{-maxMat}, 0, api.ErrRange},
		}
		for _, c := range cases {
			x, y := lay(c.a, c.b)
			want := none
			if c.e == api.OK {
				want[i] = c.want
			}
			checkMul(t, x, y, want, c.e)
		}
	}
	for _, a := range []int{maxMat, -maxMat} {
		for _, b := range []int{maxMat, -maxMat} {
			checkMul(t, filled(a), filled(b), none, api.ErrRange)
		}
	}
}

// TestMulByChance holds products against those of numbers without an end.
func TestMulByChance(t *testing.T) {
	c, right := chance(5), 0
	for i := range 20000 {
		a, b := c.mat(8+i%21), c.mat(28-i%13)
		want, e := slowMul(a, b)
		if e == api.OK {
			right++
		}
		checkMul(t, a, b, want, e)
	}
	if right < 2000 || right > 18000 {
		t.Errorf("of 20000 products %d may be: too few or too many to tell anything", right)
	}
}

func TestApply(t *testing.T) {
	checkApply(t, unit, [4]int{1, -2, 3, -4}, 4, [4]int{1, -2, 3, -4}, api.OK)
	checkApply(t, none, [4]int{1, -2, 3, -4}, 4, [4]int{}, api.OK)
	checkApply(t, unlike, [4]int{}, 0, [4]int{}, api.OK)
	checkApply(t, times(unlike, one), [4]int{1, 10, 100, 1000}, maxClip, [4]int{4321, 8765, 13209, 17653}, api.OK)
	checkApply(t, unit, [4]int{maxMat, -maxMat, maxMat, -maxMat}, maxMat, [4]int{maxMat, -maxMat, maxMat, -maxMat}, api.OK)
	for i := range 16 {
		for k := range 4 {
			want := [4]int{}
			if i%4 == k {
				want[i/4] = 15
			}
			checkApply(t, with(none, i, 3*one), put([4]int{}, k, 5), 15, want, api.OK)
		}
	}
}

// TestApplyOfWhatMayNotBe holds that a matrix, a number or a most that may not be tells, whatever the rest is.
func TestApplyOfWhatMayNotBe(t *testing.T) {
	most := []int{-1, -2, -maxClip, math.MinInt, math.MinInt + 1, maxClip + 1, 1<<37 - 1, 1 << 40, math.MaxInt}
	for _, n := range outside() {
		for i := range 16 {
			for _, m := range []api.Mat{none, unit, filled(maxMat)} {
				bad := with(m, i, n)
				checkApply(t, bad, [4]int{1, 2, 3, 4}, maxClip, [4]int{}, api.ErrArg)
				checkApply(t, bad, [4]int{}, 0, [4]int{}, api.ErrArg)
				checkApply(t, bad, [4]int{maxMat, maxMat, maxMat, maxMat}, 0, [4]int{}, api.ErrArg)
			}
		}
		for i := range 4 {
			for _, v := range [][4]int{{}, {maxMat, maxMat, maxMat, maxMat}, {-maxMat, 1, 0, maxMat}} {
				bad := put(v, i, n)
				for _, m := range []api.Mat{none, unit, filled(maxMat), filled(-maxMat)} {
					checkApply(t, m, bad, maxClip, [4]int{}, api.ErrArg)
					checkApply(t, m, bad, 0, [4]int{}, api.ErrArg)
				}
			}
		}
	}
	for _, n := range most {
		checkApply(t, unit, [4]int{}, n, [4]int{}, api.ErrArg)
		checkApply(t, none, [4]int{1, 2, 3, 4}, n, [4]int{}, api.ErrArg)
		checkApply(t, filled(maxMat), [4]int{maxMat, maxMat, maxMat, maxMat}, n, [4]int{}, api.ErrArg)
		checkApply(t, filled(maxMat+1), [4]int{maxMat + 1}, n, [4]int{}, api.ErrArg)
	}
}

// TestApplyAtTheBounds has each of the four numbers just at most and at -most, and just beyond.
func TestApplyAtTheBounds(t *testing.T) {
	for i := range 4 {
		for _, most := range []int{0, 1, 2, 65535, one, maxMat - 1, maxMat} {
			m, v := unit, [4]int{}
			checkApply(t, m, put(v, i, most), most, put(v, i, most), api.OK)
			checkApply(t, m, put(v, i, -most), most, put(v, i, -most), api.OK)
			if most < maxMat {
				checkApply(t, m, put(v, i, most+1), most, [4]int{}, api.ErrRange)
				checkApply(t, m, put(v, i, -most-1), most, [4]int{}, api.ErrRange)
			}
		}
		for k := range 4 {
			// Behind the sum a rest is left, which is rounded off below most and counts below -most.
			m, other := none, (k+1)%4
			m[4*i+k], m[4*i+other] = maxMat, 1
			v := put([4]int{}, k, one)
			checkApply(t, m, put(v, other, one-1), maxMat, put([4]int{}, i, maxMat), api.OK)
			checkApply(t, m, put(v, other, one), maxMat, [4]int{}, api.ErrRange)
			v = put([4]int{}, k, -one)
			checkApply(t, m, v, maxMat, put([4]int{}, i, -maxMat), api.OK)
			checkApply(t, m, put(v, other, -1), maxMat, [4]int{}, api.ErrRange)
			checkApply(t, m, put(v, other, -1), maxMat+1, put([4]int{}, i, -maxMat-1), api.OK)
		}
	}
}

// TestApplyAtMaxClip has sums of products at MaxClip times One, and those that lie around them.
func TestApplyAtMaxClip(t *testing.T) {
	for i := range 4 {
		m := none
		m[4*i], m[4*i+1], m[4*i+2], m[4*i+3] = maxMat, 1, 0, one
		at := func(n int) [4]int { return put([4]int{}, i, n) }
		checkApply(t, m, [4]int{1 << 24}, maxClip, at(maxClip), api.OK)
		checkApply(t, m, [4]int{1 << 24, one - 1}, maxClip, at(maxClip), api.OK)
		checkApply(t, m, [4]int{1 << 24, one}, maxClip, [4]int{}, api.ErrRange)
		checkApply(t, m, [4]int{1 << 24, 0, maxMat, 1}, maxClip, [4]int{}, api.ErrRange)
		checkApply(t, m, [4]int{1 << 24, 0, maxMat, -1}, maxClip, at(maxClip-1), api.OK)
		checkApply(t, m, [4]int{1 << 24, 0, maxMat, 0}, maxClip-1, [4]int{}, api.ErrRange)
		checkApply(t, m, [4]int{-1 << 24}, maxClip, at(-maxClip), api.OK)
		checkApply(t, m, [4]int{-1 << 24, 1}, maxClip, at(-maxClip), api.OK)
		checkApply(t, m, [4]int{-1 << 24, -1}, maxClip, [4]int{}, api.ErrRange)
		checkApply(t, m, [4]int{-1 << 24, -1, 0, 1}, maxClip, at(-maxClip), api.OK)
		checkApply(t, m, [4]int{-1 << 24}, maxClip-1, [4]int{}, api.ErrRange)
	}
}

// TestApplyOfTheGreatestSums holds that neither they, nor what they are made of, run over.
func TestApplyOfTheGreatestSums(t *testing.T) {
	for _, a := range []int{maxMat, -maxMat} {
		for _, b := range []int{maxMat, -maxMat} {
			all := [4]int{b, b, b, b}
			checkApply(t, filled(a), all, maxClip, [4]int{}, api.ErrRange)
			checkApply(t, filled(a), all, 0, [4]int{}, api.ErrRange)
			for i := range 4 {
				m := none
				for k := range 4 {
					m[4*i+k] = a
				}
				checkApply(t, m, all, maxClip, [4]int{}, api.ErrRange)
			}
			checkApply(t, filled(a), [4]int{b, b, -b, -b}, 0, [4]int{}, api.OK)
			checkApply(t, filled(a), [4]int{b, -b, -b, b}, 0, [4]int{}, api.OK)
			// One of them, nearer to 0 by 1, leaves as much as a single entry.
			near := b / maxMat
			left := -near * a / one
			checkApply(t, filled(a), [4]int{b, -b, b - near, -b}, maxMat, [4]int{left, left, left, left}, api.OK)
		}
	}
}

// TestApplyByChance holds what it answers against numbers without an end.
func TestApplyByChance(t *testing.T) {
	c, right := chance(7), 0
	for i := range 50000 {
		m, v, most := c.mat(4+i%25), c.four(28-i%11), 1<<(8+i%29)
		want, e := slowApply(m, v, most)
		if e == api.OK {
			right++
		}
		checkApply(t, m, v, most, want, e)
	}
	if right < 5000 || right > 45000 {
		t.Errorf("of 50000 goes %d may be: too few or too many to tell anything", right)
	}
}

func TestMove(t *testing.T) {
	ways := []int{0, 1, -1, 2, 77, -300, 4095, -4095, 4096, -4096}
	for _, x := range ways {
		for _, y := range ways {
			for _, z := range ways {
				want := with(with(with(unit, 3, x*one), 7, y*one), 11, z*one)
				if m, e := Move(x, y, z); m != want || e != api.OK || !Right(m) {
					t.Errorf("P5.3: Move(%d, %d, %d): %v, %d", x, y, z, m, e)
				}
			}
		}
	}
}

func TestMoveTooFar(t *testing.T) {
	far := []int{4097, -4097, 4098, 1 << 20, 1 << 32, 1<<32 + 1, 1<<48 + 4096, 1 << 62, math.MaxInt, math.MinInt, math.MinInt + 1}
	for _, n := range far {
		for _, other := range []int{0, 1, 4096, -4096, 4097, math.MinInt} {
			for _, w := range [][3]int{{n, other, other}, {other, n, other}, {other, other, n}, {n, n, other}, {n, n, n}} {
				if m, e := Move(w[0], w[1], w[2]); m != none || e != api.ErrRange {
					t.Errorf("P5.3: Move of %v: %v, %d", w, m, e)
				}
			}
		}
	}
}

// turns are those of each axis by 0 to 3 quarters, written out.
func turns() [3][4]api.Mat {
	const p, m = one, -one
	return [3][4]api.Mat{
		{unit,
			{p, 0, 0, 0, 0, 0, m, 0, 0, p, 0, 0, 0, 0, 0, p},
			{p, 0, 0, 0, 0, m, 0, 0, 0, 0, m, 0, 0, 0, 0, p},
			{p, 0, 0, 0, 0, 0, p, 0, 0, m, 0, 0, 0, 0, 0, p}},
		{unit,
			{0, 0, p, 0, 0, p, 0, 0, m, 0, 0, 0, 0, 0, 0, p},
			{m, 0, 0, 0, 0, p, 0, 0, 0, 0, m, 0, 0, 0, 0, p},
			{0, 0, m, 0, 0, p, 0, 0, p, 0, 0, 0, 0, 0, 0, p}},
		{unit,
			{0, m, 0, 0, p, 0, 0, 0, 0, 0, p, 0, 0, 0, 0, p},
			{m, 0, 0, 0, 0, m, 0, 0, 0, 0, p, 0, 0, 0, 0, p},
			{0, p, 0, 0, m, 0, 0, 0, 0, 0, p, 0, 0, 0, 0, p}},
	}
}

func checkTurn(t *testing.T, axis, quarters int, want api.Mat) {
	t.Helper()
	if m, e := Turn(axis, quarters); m != want || e != api.OK {
		t.Errorf("P5.3: Turn(%d, %d): %v, %d; not %v", axis, quarters, m, e, want)
	}
}

func TestTurn(t *testing.T) {
	for axis, l := range turns() {
		for n := -8; n <= 8; n++ {
			checkTurn(t, axis, n, l[(n+8)%4])
		}
		ends := map[int]int{
			math.MaxInt: 3, math.MaxInt - 1: 2, math.MaxInt - 2: 1, math.MaxInt - 3: 0,
			math.MinInt: 0, math.MinInt + 1: 1, math.MinInt + 2: 2, math.MinInt + 3: 3,
			1 << 32: 0, 1<<32 + 1: 1, -1<<32 + 1: 1, 1<<62 + 3: 3, -1<<62 - 1: 3, 1000003: 3, -1000003: 1,
		}
		for n, rest := range ends {
			checkTurn(t, axis, n, l[rest])
		}
	}
}

// TestTurnBringsAxes holds the chapter's words: the next axis comes to the one behind, that to the next one, turned about.
func TestTurnBringsAxes(t *testing.T) {
	for axis := range 3 {
		next, behind := (axis+1)%3, (axis+2)%3
		for _, w := range []int{one, 0, -7} {
			end := put([4]int{}, 3, w)
			m := turn(t, axis, 1)
			checkApply(t, m, put(end, next, 5*one), maxMat, put(end, behind, 5*one), api.OK)
			checkApply(t, m, put(end, behind, 5*one), maxMat, put(end, next, -5*one), api.OK)
			checkApply(t, m, put(end, axis, 5*one), maxMat, put(end, axis, 5*one), api.OK)
		}
	}
	checkApply(t, turn(t, 2, 1), [4]int{one, 0, 0, one}, maxMat, [4]int{0, one, 0, one}, api.OK)
	checkApply(t, turn(t, 2, 1), [4]int{3, 4, 5, 1}, 9, [4]int{-4, 3, 5, 1}, api.OK)
	checkApply(t, turn(t, 2, -1), [4]int{3, 4, 5, 1}, 9, [4]int{4, -3, 5, 1}, api.OK)
}

func TestTurnAroundNoAxis(t *testing.T) {
	for _, axis := range []int{-1, -2, -3, 3, 4, 5, 6, 1 << 32, 1<<32 + 1, -1 << 32, math.MinInt, math.MinInt + 2, math.MaxInt} {
		for _, n := range []int{0, 1, 2, 3, 4, -1, math.MinInt, math.MaxInt} {
			if m, e := Turn(axis, n); m != none || e != api.ErrArg {
				t.Errorf("P5.3: Turn(%d, %d): %v, %d", axis, n, m, e)
			}
		}
	}
}

func TestQuartersAddUp(t *testing.T) {
	numbers := []int{-9, -5, -4, -3, -2, -1, 0, 1, 2, 3, 4, 5, 6, 7, 8, 1 << 40, 1<<61 + 3, -1<<61 - 2}
	for axis := range 3 {
		for _, n := range numbers {
			for _, k := range numbers {
				if m := mul(t, turn(t, axis, n), turn(t, axis, k)); m != turn(t, axis, n+k) {
					t.Errorf("P5.4: %d and %d quarters around %d: %v", n, k, axis, m)
				}
			}
			if m := mul(t, turn(t, axis, n), turn(t, axis, -n)); m != Unit() {
				t.Errorf("P5.4: %d quarters around %d and back: %v", n, axis, m)
			}
			if m := turn(t, axis, n); Flip(m) != turn(t, axis, -n) {
				t.Errorf("P5.4: rows as columns of %d quarters around %d: %v", n, axis, Flip(m))
			}
		}
		m := Unit()
		for range 4 {
			m = mul(t, m, turn(t, axis, 1))
		}
		if m != Unit() || turn(t, axis, 4) != Unit() {
			t.Errorf("P5.4: four quarters around %d: %v", axis, m)
		}
	}
}

func TestMovesAdd(t *testing.T) {
	c := chance(9)
	for i := range 2000 {
		x, y, z := c.below(12), c.below(12), c.below(12)
		v := c.four(10 + i%13)
		want := [4]int{v[0] + v[3]*x, v[1] + v[3]*y, v[2] + v[3]*z, v[3]}
		if w := apply(t, move(t, x, y, z), v); w != want {
			t.Errorf("P5.4: a move by %d, %d, %d of %v: %v, not %v", x, y, z, v, w, want)
		}
		a, b, d := x/2, y/2, z/2
		if m := mul(t, move(t, a, b, d), move(t, x-a, y-b, z-d)); m != move(t, x, y, z) {
			t.Errorf("P5.4: a move by %d, %d, %d in two: %v", x, y, z, m)
		}
	}
	v := [4]int{maxMat, -maxMat, 0, maxMat}
	if w := apply(t, move(t, 1, 0, 255), v); w != [4]int{2 * maxMat, -maxMat, 255 * maxMat, maxMat} {
		t.Errorf("P5.4: a move of %v: %v", v, w)
	}
}

// wholes answers a matrix of whole numbers, each below 2^bits, times One.
func wholes(c *chance, bits int) api.Mat {
	return times(c.mat(bits), one)
}

// TestBothTogether holds that what both together do is what one does behind the other.
func TestBothTogether(t *testing.T) {
	c := chance(11)
	for i := range 5000 {
		a, b, v := wholes(&c, 1+i%4), wholes(&c, 5-i%4), c.four(4+i%15)
		checkTogether(t, a, b, v)
	}
	var known []api.Mat
	for axis := range 3 {
		for n := range 4 {
			known = append(known, turn(t, axis, n))
		}
	}
	known = append(known, move(t, 1, 2, 3), move(t, -20, 0, 50), move(t, 0, 1300, -1300))
	for _, a := range known {
		for _, b := range known {
			checkTogether(t, a, b, [4]int{11, -12, 13, 1})
			checkTogether(t, a, b, [4]int{one, 2 * one, -3 * one, one})
			for _, m := range known {
				if mul(t, mul(t, a, b), m) != mul(t, a, mul(t, b, m)) {
					t.Errorf("P5.4: the product of three hangs on which one is made first: %v, %v, %v", a, b, m)
				}
			}
		}
	}
}

func checkTogether(t *testing.T, a, b api.Mat, v [4]int) {
	t.Helper()
	both, each := apply(t, mul(t, a, b), v), apply(t, a, apply(t, b, v))
	if both != each {
		t.Errorf("P5.4: %v and %v together make %v of %v, one behind the other %v", a, b, both, v, each)
	}
}

func TestTurnsAndMovesInOrder(t *testing.T) {
	v := [4]int{3, 4, 5, 1}
	// What is told last is done first.
	checkApply(t, mul(t, turn(t, 2, 1), move(t, 10, 0, 0)), v, 99, [4]int{-4, 13, 5, 1}, api.OK)
	checkApply(t, mul(t, move(t, 10, 0, 0), turn(t, 2, 1)), v, 99, [4]int{6, 3, 5, 1}, api.OK)
	checkApply(t, mul(t, turn(t, 0, 1), turn(t, 1, 1)), v, 99, [4]int{5, 3, 4, 1}, api.OK)
	checkApply(t, mul(t, turn(t, 1, 1), turn(t, 0, 1)), v, 99, [4]int{4, -5, -3, 1}, api.OK)
}
