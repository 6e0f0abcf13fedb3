package xint

import (
	"math"
	"math/big"
	"testing"

	"rastrum/api"
)

var (
	least    = api.Int{Hi: math.MinInt}
	greatest = api.Int{Hi: math.MaxInt, Lo: math.MaxUint64}
	nought   = api.Int{}
)

// wide answers n as a number without an end.
func wide(n int) *big.Int { return big.NewInt(int64(n)) }

// power is 2^n.
func power(n int) *big.Int { return new(big.Int).Lsh(wide(1), uint(n)) }

// whole is Hi times 2^64, and Lo, by the chapter's words.
func whole(a api.Int) *big.Int {
	n := new(big.Int).Mul(wide(a.Hi), power(64))
	return n.Add(n, new(big.Int).SetUint64(a.Lo))
}

// narrow is n as a number of 128 bits, and whether it is one.
func narrow(n *big.Int) (api.Int, bool) {
	// Euclid's quotient by a divisor above 0 is rounded down.
	hi, lo := new(big.Int).DivMod(n, power(64), new(big.Int))
	if !hi.IsInt64() {
		return api.Int{}, false
	}
	return api.Int{Hi: int(hi.Int64()), Lo: lo.Uint64()}, true
}

// small is n as an int, and whether it is one.
func small(n *big.Int) (int, bool) {
	if !n.IsInt64() {
		return 0, false
	}
	return int(n.Int64()), true
}

// noise answers n numbers that look like chance and are the same at each run.
func noise(n int) []uint64 {
	l := make([]uint64, n)
	x := uint64(0x9e3779b97f4a7c15)
	for i := range l {
		x ^= x << 13
		x ^= x >> 7
		x ^= x << 17
		l[i] = x
	}
	return l
}

// ints are the ends of an int, powers of 2 and what lies beside them, and some of any length.
func ints() []int {
	l := []int{math.MinInt, math.MinInt + 1, math.MaxInt, math.MaxInt - 1, 0, 3, -3, 5, 7, -7, 10, 99, 3037000499, 3037000500}
	for _, k := range []int{0, 1, 2, 8, 16, 31, 32, 33, 36, 61, 62} {
		n := 1 << k
		l = append(l, n-1, n, n+1, 1-n, -n, -n-1)
	}
	for i, n := range noise(20) {
		l = append(l, int(n)>>(i*3))
	}
	return l
}

// numbers are the ends of 128 bits, powers of 2 and what lies beside them, and some of any length.
func numbers() []api.Int {
	l := []api.Int{least, greatest, nought}
	for _, n := range []int{1, 2, 3, 7, 10, 99, 0x5555555555555555, math.MaxInt, math.MinInt} {
		l = append(l, api.Int{Lo: uint64(n)}, api.Int{Hi: -1, Lo: uint64(-n)}, api.Int{Hi: n}, api.Int{Hi: n, Lo: math.MaxUint64})
	}
	for _, k := range []int{31, 32, 62, 63, 64, 65, 95, 96, 125, 126, 127} {
		for _, d := range []int{-1, 0, 1} {
			n := new(big.Int).Add(power(k), wide(d))
			for _, m := range []*big.Int{n, new(big.Int).Neg(n)} {
				if a, ok := narrow(m); ok {
					l = append(l, a)
				}
			}
		}
	}
	chance := noise(40)
	for i := range 20 {
		n := new(big.Int).Rsh(whole(api.Int{Hi: int(chance[2*i]), Lo: chance[2*i+1]}), uint(i*6))
		a, _ := narrow(n)
		l = append(l, a)
	}
	return l
}

// same holds what a call answered, as a number or none, against the number that the document asks for.
func same(t *testing.T, got api.Int, ok bool, want *big.Int) bool {
	t.Helper()
	n, fits := narrow(want)
	if got != n || ok != fits {
		t.Errorf("answered %v, %v; not %v, %v (%v)", got, ok, n, fits, want)
		return false
	}
	return true
}

func TestOf(t *testing.T) {
	for _, n := range ints() {
		if a := Of(n); whole(a).Cmp(wide(n)) != 0 {
			t.Errorf("P2.1: Of(%d): %v", n, a)
		}
	}
	if Of(-1) != (api.Int{Hi: -1, Lo: math.MaxUint64}) || Of(math.MinInt) != (api.Int{Hi: -1, Lo: 1 << 63}) {
		t.Error("P2.1: Of numbers below 0")
	}
}

func TestSmall(t *testing.T) {
	for _, n := range ints() {
		if m, ok := Small(Of(n)); m != n || !ok {
			t.Errorf("P2.1: Small of %d: %d, %v", n, m, ok)
		}
	}
	for _, a := range numbers() {
		n, fits := small(whole(a))
		if m, ok := Small(a); m != n || ok != fits {
			t.Errorf("P2.1: Small(%v): %d, %v; not %d, %v", a, m, ok, n, fits)
		}
	}
}

func TestSmallAtTheEndsOfAnInt(t *testing.T) {
	cases := []struct {
		a  api.Int
		n  int
		ok bool
	}{
		{api.Int{Hi: 0, Lo: math.MaxInt}, math.MaxInt, true},
		{api.Int{Hi: 0, Lo: 1 << 63}, 0, false},
		{api.Int{Hi: 0, Lo: math.MaxUint64}, 0, false},
		{api.Int{Hi: -1, Lo: 1 << 63}, math.MinInt, true},
		{api.Int{Hi: -1, Lo: 1<<63 - 1}, 0, false},
		{api.Int{Hi: -1, Lo: 0}, 0, false},
		{api.Int{Hi: 1, Lo: 5}, 0, false},
		{api.Int{Hi: -2, Lo: math.MaxUint64}, 0, false},
		{least, 0, false}, {greatest, 0, false}, {nought, 0, true},
	}
	for _, c := range cases {
		if n, ok := Small(c.a); n != c.n || ok != c.ok {
			t.Errorf("P2.1: Small(%v): %d, %v", c.a, n, ok)
		}
	}
}

func TestSignAndCmp(t *testing.T) {
	l := numbers()
	for _, a := range l {
		if s := Sign(a); s != whole(a).Sign() {
			t.Errorf("P2.1: Sign(%v): %d", a, s)
		}
		for _, b := range l {
			if c := Cmp(a, b); c != whole(a).Cmp(whole(b)) {
				t.Errorf("P2.1: Cmp(%v, %v): %d", a, b, c)
			}
		}
	}
	if Sign(api.Int{Lo: 1 << 63}) != 1 || Sign(api.Int{Hi: -1}) != -1 || Sign(least) != -1 || Sign(nought) != 0 {
		t.Error("P2.1: Sign")
	}
	if Cmp(least, greatest) != -1 || Cmp(api.Int{Lo: 1 << 63}, api.Int{Lo: 1}) != 1 || Cmp(Of(-1), Of(-2)) != 1 {
		t.Error("P2.1: Cmp")
	}
}

func TestNeg(t *testing.T) {
	for _, a := range numbers() {
		n, ok := Neg(a)
		if !same(t, n, ok, new(big.Int).Neg(whole(a))) {
			t.Errorf("P2.2: Neg(%v)", a)
		}
	}
	if n, ok := Neg(least); n != nought || ok {
		t.Errorf("P2.2: Neg of the least number: %v, %v", n, ok)
	}
}

func TestAddAndSub(t *testing.T) {
	l := numbers()
	for _, a := range l {
		for _, b := range l {
			n, ok := Add(a, b)
			if !same(t, n, ok, new(big.Int).Add(whole(a), whole(b))) {
				t.Errorf("P2.2: Add(%v, %v)", a, b)
			}
			n, ok = Sub(a, b)
			if !same(t, n, ok, new(big.Int).Sub(whole(a), whole(b))) {
				t.Errorf("P2.2: Sub(%v, %v)", a, b)
			}
		}
	}
}

func TestAddAndSubAtTheEnds(t *testing.T) {
	one, minus := Of(1), Of(-1)
	cases := []struct {
		f    func(a, b api.Int) (api.Int, bool)
		a, b api.Int
		n    api.Int
		ok   bool
	}{
		{Add, greatest, one, nought, false}, {Add, one, greatest, nought, false},
		{Add, least, minus, nought, false}, {Add, least, least, nought, false},
		{Add, greatest, least, minus, true}, {Add, greatest, nought, greatest, true},
		{Add, minus, one, nought, true}, {Add, api.Int{Lo: math.MaxUint64}, one, api.Int{Hi: 1}, true},
		{Sub, least, one, nought, false}, {Sub, greatest, minus, nought, false},
		{Sub, nought, least, nought, false}, {Sub, minus, least, greatest, true},
		{Sub, minus, greatest, least, true}, {Sub, least, least, nought, true},
		{Sub, api.Int{Hi: 1}, one, api.Int{Lo: math.MaxUint64}, true},
	}
	for i, c := range cases {
		if n, ok := c.f(c.a, c.b); n != c.n || ok != c.ok {
			t.Errorf("P2.2: case %d: %v, %v", i, n, ok)
		}
	}
}

func TestMul(t *testing.T) {
	l := ints()
	for _, a := range l {
		for _, b := range l {
			if !same(t, Mul(a, b), true, new(big.Int).Mul(wide(a), wide(b))) {
				t.Errorf("P2.2: Mul(%d, %d)", a, b)
			}
		}
	}
	if Mul(math.MinInt, math.MinInt) != (api.Int{Hi: 1 << 62}) {
		t.Error("P2.2: Mul of the least int by itself")
	}
}

func TestTimes(t *testing.T) {
	for _, a := range numbers() {
		for _, n := range ints() {
			m, ok := Times(a, n)
			if !same(t, m, ok, new(big.Int).Mul(whole(a), wide(n))) {
				t.Errorf("P2.2: Times(%v, %d)", a, n)
			}
		}
	}
}

func TestTimesAtTheEnds(t *testing.T) {
	cases := []struct {
		a  api.Int
		n  int
		m  api.Int
		ok bool
	}{
		{least, 1, least, true}, {least, 0, nought, true}, {least, -1, nought, false}, {least, 2, nought, false},
		{greatest, 1, greatest, true}, {greatest, -1, api.Int{Hi: math.MinInt, Lo: 1}, true}, {greatest, 2, nought, false},
		{api.Int{Hi: 1 << 62}, 2, nought, false}, {api.Int{Hi: 1 << 62}, -2, least, true},
		{api.Int{Hi: -1 << 62}, 2, least, true}, {api.Int{Hi: -1 << 62}, -2, nought, false},
		{api.Int{Hi: 1}, math.MinInt, least, true}, {api.Int{Hi: -1}, math.MinInt, nought, false},
		{api.Int{Hi: 1}, math.MaxInt, api.Int{Hi: math.MaxInt}, true},
		{least, math.MinInt, nought, false}, {greatest, math.MaxInt, nought, false}, {nought, math.MinInt, nought, true},
	}
	for _, c := range cases {
		if m, ok := Times(c.a, c.n); m != c.m || ok != c.ok {
			t.Errorf("P2.2: Times(%v, %d): %v, %v", c.a, c.n, m, ok)
		}
	}
}

// Around every end, numbers that just fit and those that just don't.
func TestTimesJustInsideAndOutside(t *testing.T) {
	for _, n := range ints() {
		if n == 0 {
			continue
		}
		for _, end := range []*big.Int{whole(least), whole(greatest)} {
			near := new(big.Int).Quo(end, wide(n))
			for d := -2; d <= 2; d++ {
				a, fits := narrow(new(big.Int).Add(near, wide(d)))
				if !fits {
					continue
				}
				m, ok := Times(a, n)
				if !same(t, m, ok, new(big.Int).Mul(whole(a), wide(n))) {
					t.Errorf("P2.2: Times(%v, %d)", a, n)
				}
			}
		}
	}
}

func TestDiv(t *testing.T) {
	for _, a := range numbers() {
		for _, d := range ints() {
			if d < 1 {
				continue
			}
			q, left := new(big.Int).DivMod(whole(a), wide(d), new(big.Int))
			n, rest, ok := Div(a, d)
			if !same(t, n, ok, q) || wide(rest).Cmp(left) != 0 {
				t.Errorf("P2.3: Div(%v, %d): %v, %d, %v", a, d, n, rest, ok)
			}
		}
	}
}

func TestDivRoundsDown(t *testing.T) {
	cases := []struct{ a, d, q, left int }{
		{7, 2, 3, 1}, {-7, 2, -4, 1}, {-8, 2, -4, 0}, {8, 2, 4, 0}, {-1, 2, -1, 1}, {-1, 1, -1, 0}, {0, 3, 0, 0},
		{1, math.MaxInt, 0, 1}, {-1, math.MaxInt, -1, math.MaxInt - 1}, {math.MinInt, 1, math.MinInt, 0},
		{math.MinInt, math.MaxInt, -2, math.MaxInt - 1}, {math.MaxInt, math.MaxInt, 1, 0},
	}
	for _, c := range cases {
		if q, left, ok := Div(Of(c.a), c.d); q != Of(c.q) || left != c.left || !ok {
			t.Errorf("P2.3: Div(%d, %d): %v, %d, %v", c.a, c.d, q, left, ok)
		}
	}
	if q, left, ok := Div(least, 1); q != least || left != 0 || !ok {
		t.Errorf("P2.3: Div of the least number by 1: %v, %d, %v", q, left, ok)
	}
	if q, left, ok := Div(least, 2); q != (api.Int{Hi: -1 << 62}) || left != 0 || !ok {
		t.Errorf("P2.3: Div of the least number by 2: %v, %d, %v", q, left, ok)
	}
}

func TestDivRefuses(t *testing.T) {
	for _, a := range numbers() {
		for _, d := range []int{0, -1, -2, math.MinInt, math.MinInt + 1} {
			if q, left, ok := Div(a, d); q != nought || left != 0 || ok {
				t.Errorf("P2.3: Div(%v, %d): %v, %d, %v", a, d, q, left, ok)
			}
		}
	}
}

func checkRoot(t *testing.T, n *big.Int) {
	t.Helper()
	a, fits := narrow(n)
	if !fits {
		t.Fatalf("%v is no number of 128 bits", n)
	}
	want, ok := 0, false
	if n.Sign() >= 0 {
		want, ok = small(new(big.Int).Sqrt(n))
	}
	if root, is := Root(a); root != want || is != ok {
		t.Errorf("P2.3: Root(%v): %d, %v; not %d, %v", n, root, is, want, ok)
	}
}

func TestRoot(t *testing.T) {
	for _, a := range numbers() {
		checkRoot(t, whole(a))
	}
	for n := range 2000 {
		checkRoot(t, wide(n))
	}
	// Whole roots, and those one less.
	for _, r := range ints() {
		if r < 2 {
			continue
		}
		square := new(big.Int).Mul(wide(r), wide(r))
		for _, d := range []int{-2, -1, 0, 1} {
			checkRoot(t, new(big.Int).Add(square, wide(d)))
		}
	}
}

func TestRootOfEveryLength(t *testing.T) {
	chance := noise(254)
	for k := range 127 {
		n := whole(api.Int{Hi: int(chance[2*k] >> 1), Lo: chance[2*k+1]})
		checkRoot(t, n.Rsh(n, uint(k)))
		checkRoot(t, power(k))
		checkRoot(t, new(big.Int).Sub(power(k), wide(1)))
	}
}

func TestRootThatIsNoInt(t *testing.T) {
	cases := []struct {
		a  api.Int
		n  int
		ok bool
	}{
		{nought, 0, true}, {Of(1), 1, true}, {Of(99), 9, true}, {Of(100), 10, true},
		{api.Int{Hi: 1<<62 - 1, Lo: math.MaxUint64}, math.MaxInt, true},
		{api.Int{Hi: 1<<62 - 1, Lo: 1}, math.MaxInt, true}, {api.Int{Hi: 1<<62 - 1}, math.MaxInt - 1, true},
		{api.Int{Hi: 1 << 62}, 0, false}, {api.Int{Hi: 1 << 62, Lo: 1}, 0, false}, {greatest, 0, false},
		{Of(-1), 0, false}, {Of(-100), 0, false}, {Of(math.MinInt), 0, false}, {least, 0, false},
	}
	for _, c := range cases {
		if n, ok := Root(c.a); n != c.n || ok != c.ok {
			t.Errorf("P2.3: Root(%v): %d, %v", c.a, n, ok)
		}
	}
}

func checkRatio(t *testing.T, a api.Int, b int, c api.Int, d int) {
	t.Helper()
	left := new(big.Int).Mul(whole(a), wide(d))
	right := new(big.Int).Mul(whole(c), wide(b))
	if n, ok := Ratio(a, b, c, d); n != left.Cmp(right) || !ok {
		t.Errorf("P2.4: Ratio(%v, %d, %v, %d): %d, %v", a, b, c, d, n, ok)
	}
}

func TestRatio(t *testing.T) {
	l := numbers()
	divisors := []int{1, 2, 3, 7, 1 << 32, 1<<62 + 1, math.MaxInt - 1, math.MaxInt}
	for i, a := range l {
		for _, c := range l[i:] {
			for _, b := range divisors {
				for _, d := range divisors {
					checkRatio(t, a, b, c, d)
					checkRatio(t, c, d, a, b)
				}
			}
		}
	}
}

// Fractions that are the same, and those that differ by the least that can be.
func TestRatioOfNearFractions(t *testing.T) {
	cases := []struct {
		a, b, c, d, n int
	}{
		{1, 3, 2, 6, 0}, {-1, 3, -2, 6, 0}, {1, 3, 1, 2, -1}, {-1, 3, -1, 2, 1}, {0, 1, 0, math.MaxInt, 0},
		{math.MaxInt - 1, math.MaxInt, math.MaxInt, math.MaxInt, -1}, {-1, math.MaxInt, 0, 1, -1},
		{math.MaxInt - 2, math.MaxInt - 1, math.MaxInt - 1, math.MaxInt, -1},
		{math.MaxInt, math.MaxInt - 1, math.MaxInt - 1, math.MaxInt - 2, -1},
		{math.MinInt, math.MaxInt, -1, 1, -1}, {7, 2, 3, 1, 1}, {-7, 2, -3, 1, -1}, {-7, 2, -4, 1, 1},
	}
	for _, c := range cases {
		if n, ok := Ratio(Of(c.a), c.b, Of(c.c), c.d); n != c.n || !ok {
			t.Errorf("P2.4: Ratio(%d, %d, %d, %d): %d, %v", c.a, c.b, c.c, c.d, n, ok)
		}
	}
	for _, x := range noise(300) {
		n, k := int(x>>30), int(x>>40)+1
		for m := 1; m < 1<<29; m *= 5 {
			checkRatio(t, Of(n), k, Of(n*m), k*m)
			checkRatio(t, Of(n), k, Of(n*m+1), k*m)
			checkRatio(t, Of(-n), k, Of(-n*m), k*m)
			checkRatio(t, Of(-n), k, Of(-n*m-1), k*m)
		}
	}
}

func TestRatioRefuses(t *testing.T) {
	for _, wrong := range []int{0, -1, math.MinInt, math.MinInt + 1} {
		for _, d := range []int{1, math.MaxInt, 0, -1} {
			if n, ok := Ratio(greatest, wrong, least, d); n != 0 || ok {
				t.Errorf("P2.4: Ratio by %d and %d: %d, %v", wrong, d, n, ok)
			}
			if n, ok := Ratio(greatest, d, least, wrong); n != 0 || ok {
				t.Errorf("P2.4: Ratio by %d and %d: %d, %v", d, wrong, n, ok)
			}
		}
	}
}

func TestSumsGoBothWaysAndThroughThree(t *testing.T) {
	l := numbers()[:60]
	for _, a := range l {
		for _, b := range l {
			ab, ok := Add(a, b)
			ba, back := Add(b, a)
			if ab != ba || ok != back {
				t.Errorf("P2.5: Add(%v, %v) goes one way", a, b)
			}
			if n, is := Sub(ab, b); ok && (n != a || !is) {
				t.Errorf("P2.5: %v and %v, less the latter: %v, %v", a, b, n, is)
			}
			for _, c := range l {
				bc, is := Add(b, c)
				if !ok || !is {
					continue
				}
				n, left := Add(ab, c)
				m, right := Add(a, bc)
				if n != m || left != right {
					t.Errorf("P2.5: the sum of %v, %v, %v", a, b, c)
				}
			}
		}
	}
}

func TestProductsGoBothWaysAndThroughThree(t *testing.T) {
	l := ints()
	for _, a := range l {
		for _, b := range l {
			if Mul(a, b) != Mul(b, a) {
				t.Errorf("P2.5: Mul(%d, %d) goes one way", a, b)
			}
			if n, ok := Times(Of(a), b); n != Mul(a, b) || !ok {
				t.Errorf("P2.5: Times and Mul of %d, %d", a, b)
			}
			for _, c := range l {
				n, left := Times(Mul(a, b), c)
				m, right := Times(Mul(b, c), a)
				if n != m || left != right {
					t.Errorf("P2.5: the product of %d, %d, %d", a, b, c)
				}
			}
		}
	}
}

func TestProductsGoOverSums(t *testing.T) {
	l := numbers()
	for _, n := range ints() {
		for i, a := range l {
			b := l[len(l)-1-i]
			sum, ok := Add(a, b)
			an, fits := Times(a, n)
			bn, too := Times(b, n)
			if !ok || !fits || !too {
				continue
			}
			left, is := Times(sum, n)
			right, was := Add(an, bn)
			if left != right || is != was {
				t.Errorf("P2.5: %v and %v, times %d", a, b, n)
			}
		}
	}
}

func TestQuotientTimesDivisorAndRestIsTheNumber(t *testing.T) {
	for _, a := range numbers() {
		for _, d := range ints() {
			if d < 1 {
				continue
			}
			q, rest, _ := Div(a, d)
			if rest < 0 || rest >= d {
				t.Errorf("P2.5: Div(%v, %d) leaves %d", a, d, rest)
			}
			// The product may lie below the least number, and what is left bring it back.
			n := new(big.Int).Mul(whole(q), wide(d))
			if n.Add(n, wide(rest)).Cmp(whole(a)) != 0 {
				t.Errorf("P2.5: Div(%v, %d): %v, %d", a, d, q, rest)
			}
			product, ok := Times(q, d)
			if m, is := Add(product, Of(rest)); ok && (m != a || !is) {
				t.Errorf("P2.5: %v times %d, and %d: %v, %v", q, d, rest, m, is)
			}
		}
	}
}

func TestExamples(t *testing.T) {
	if q, rest, ok := Div(Of(-7), 2); q != Of(-4) || rest != 1 || !ok {
		t.Errorf("Div(-7, 2): %v, %d, %v", q, rest, ok)
	}
	if n, ok := Root(Of(99)); n != 9 || !ok {
		t.Errorf("Root(99): %d, %v", n, ok)
	}
	if n, ok := Ratio(Of(1), 3, Of(2), 6); n != 0 || !ok {
		t.Errorf("Ratio(1, 3, 2, 6): %d, %v", n, ok)
	}
}
