package real

import (
	"math"
	"math/big"
	"testing"

	"rastrum/api"
)

const (
	leastNormal   = 0x1p-1022
	greatestSmall = leastNormal - math.SmallestNonzeroFloat64
	quietNaN      = 0x7ff8000000000001
)

var (
	inf       = math.Inf(1)
	minusZero = math.Copysign(0, -1)
)

// nans are bits of floats that are no numbers, of both signs, quiet and signaling.
var nans = []uint64{
	quietNaN, 0x7ff8000000000000, 0x7ff0000000000001, 0x7fffffffffffffff, 0x7ff7ffffffffffff,
	0xfff8000000000001, 0xfff8000000000000, 0xfff0000000000001, 0xffffffffffffffff,
}

// rising are floats in their order, NaN left out.
var rising = []float64{
	-inf, -math.MaxFloat64, -1e308, -0x1p53, -2, -1.0000000000000002, -1, -0.5,
	-leastNormal, -greatestSmall, -2 * math.SmallestNonzeroFloat64, -math.SmallestNonzeroFloat64,
	minusZero, 0,
	math.SmallestNonzeroFloat64, 2 * math.SmallestNonzeroFloat64, greatestSmall, leastNormal,
	0.5, 1, 1.0000000000000002, 2, 0x1p53, 1e308, math.MaxFloat64, inf,
}

func nan() float64 { return math.Float64frombits(quietNaN) }

// noise answers n numbers that look like chance and are the same at each run.
func noise(n int) []uint64 {
	l := make([]uint64, n)
	x := uint64(0x9e3779b97f4a7c15)
	for i := range l {
		x ^= x << 13
		x ^= x >> 7
		x ^= x << 17
		l[i] = x
	}
	return l
}

// near answers floats of both signs with exponents from about -80 to 47, where rounding matters.
func near(n int) []float64 {
	l := make([]float64, n)
	for i, x := range noise(n) {
		exponent := 1023 - 80 + x>>52&127
		l[i] = math.Float64frombits(x>>63<<63 | exponent<<52 | x&(1<<52-1))
	}
	return l
}

// scaled is x times 2^bits, exactly.
func scaled(x float64, bits int) *big.Rat {
	r := new(big.Rat).SetFloat64(x)
	return r.Mul(r, new(big.Rat).SetInt(new(big.Int).Lsh(big.NewInt(1), uint(bits))))
}

// floor rounds down: the denominator is above 0, where Euclid's quotient is that.
func floor(r *big.Rat) *big.Int {
	return new(big.Int).Div(r.Num(), r.Denom())
}

// slowFixed says what Fixed answers, by fractions.
func slowFixed(x float64, bits, most int) (int, api.Errno) {
	r := scaled(x, bits)
	n := floor(r)
	rest := new(big.Rat).Sub(r, new(big.Rat).SetInt(n))
	side := rest.Cmp(big.NewRat(1, 2))
	if side > 0 || side == 0 && n.Bit(0) == 1 {
		n.Add(n, big.NewInt(1))
	}
	if n.CmpAbs(big.NewInt(int64(most))) > 0 {
		return 0, api.ErrRange
	}
	return int(n.Int64()), api.OK
}

// slowUnit says what Unit answers, by fractions.
func slowUnit(x float64, top int) int {
	x = min(max(x, 0), 1)
	r := new(big.Rat).SetFloat64(x)
	return int(floor(r.Mul(r, big.NewRat(int64(top), 1))).Int64())
}

func checkFixed(t *testing.T, x float64, bits, most, want int, wantErr api.Errno) {
	t.Helper()
	if n, e := Fixed(x, bits, most); n != want || e != wantErr {
		t.Errorf("Fixed(%v, %d, %d): %d, %d; not %d, %d", x, bits, most, n, e, want, wantErr)
	}
}

func checkUnit(t *testing.T, x float64, top, want int, wantErr api.Errno) {
	t.Helper()
	if n, e := Unit(x, top); n != want || e != wantErr {
		t.Errorf("Unit(%v, %d): %d, %d; not %d, %d", x, top, n, e, want, wantErr)
	}
}

func checkBack(t *testing.T, n, bits int, want float64, wantErr api.Errno) {
	t.Helper()
	x, e := Back(n, bits)
	if math.Float64bits(x) != math.Float64bits(want) || e != wantErr {
		t.Errorf("Back(%d, %d): %v, %d; not %v, %d", n, bits, x, e, want, wantErr)
	}
}

func TestKindsAreNumbered(t *testing.T) {
	if NaN != 1 || Endless != 2 || Nought != 3 || Small != 4 || Usual != 5 {
		t.Error("P1.1: the numbers of the kinds")
	}
}

func TestKind(t *testing.T) {
	for _, n := range nans {
		if k := Kind(math.Float64frombits(n)); k != NaN {
			t.Errorf("P1.1: Kind of bits %x: %d", n, k)
		}
	}
	cases := []struct {
		x    float64
		kind int
	}{
		{inf, Endless}, {0, Nought}, {math.SmallestNonzeroFloat64, Small}, {greatestSmall, Small},
		{leastNormal, Usual}, {0.1, Usual}, {1, Usual}, {2, Usual}, {math.MaxFloat64, Usual},
	}
	for _, c := range cases {
		for _, x := range []float64{c.x, math.Copysign(c.x, -1)} {
			if k := Kind(x); k != c.kind {
				t.Errorf("P1.1: Kind(%v): %d, not %d", x, k, c.kind)
			}
		}
	}
}

func TestMinus(t *testing.T) {
	for _, x := range []float64{0, math.SmallestNonzeroFloat64, leastNormal, 1, math.MaxFloat64, inf} {
		if Minus(x) {
			t.Errorf("P1.1: Minus(%v)", x)
		}
		if !Minus(math.Copysign(x, -1)) {
			t.Errorf("P1.1: not Minus(%v)", math.Copysign(x, -1))
		}
	}
	for _, n := range nans {
		if Minus(math.Float64frombits(n)) {
			t.Errorf("P1.1: Minus of bits %x", n)
		}
	}
}

func sign(n int) int { return min(max(n, -1), 1) }

func TestCompare(t *testing.T) {
	l := append(append([]float64(nil), rising...), nan())
	for i, a := range l {
		for k, b := range l {
			if c := Compare(a, b); c != sign(i-k) {
				t.Errorf("P1.1: Compare(%v, %v): %d", a, b, c)
			}
		}
	}
}

func TestCompareTakesNaNsAsOneAndLast(t *testing.T) {
	for _, m := range nans {
		x := math.Float64frombits(m)
		for _, n := range nans {
			if c := Compare(x, math.Float64frombits(n)); c != 0 {
				t.Errorf("P1.1: Compare of bits %x, %x: %d", m, n, c)
			}
		}
		for _, y := range rising {
			if Compare(x, y) != 1 || Compare(y, x) != -1 {
				t.Errorf("P1.1: NaN of bits %x isn't behind %v", m, y)
			}
		}
	}
}

func TestBits(t *testing.T) {
	cases := []struct {
		x float64
		n int
	}{
		{0, 0}, {minusZero, math.MinInt}, {1, 0x3ff0000000000000}, {-1, 0x3ff0000000000000 + math.MinInt},
		{math.SmallestNonzeroFloat64, 1}, {-math.SmallestNonzeroFloat64, math.MinInt + 1},
		{inf, 0x7ff0000000000000}, {-inf, 0x7ff0000000000000 + math.MinInt},
	}
	for _, c := range cases {
		if n := Bits(c.x); n != c.n {
			t.Errorf("P1.1: Bits(%v): %x", c.x, n)
		}
	}
	for _, n := range nans {
		if b := Bits(math.Float64frombits(n)); b != quietNaN {
			t.Errorf("P1.1: Bits of the NaN of bits %x: %x", n, b)
		}
	}
}

func TestOf(t *testing.T) {
	for _, n := range nans {
		if b := math.Float64bits(Of(int(n))); b != quietNaN {
			t.Errorf("P1.1: Of NaN's bits %x: %x", n, b)
		}
	}
	for _, n := range append(noise(1000), 0, 1, 1<<63, 1<<63|1, 0x7ff0000000000000, 0xfff0000000000000) {
		x := math.Float64frombits(n)
		if x != x {
			continue
		}
		if b := math.Float64bits(Of(int(n))); b != n || Bits(x) != int(n) {
			t.Errorf("P1.1: Of and Bits of %x", n)
		}
	}
}

func TestFixedRounds(t *testing.T) {
	cases := []struct {
		x       float64
		bits, n int
	}{
		{0, 0, 0}, {minusZero, 0, 0}, {minusZero, 32, 0}, {0.5, 0, 0}, {1.5, 0, 2}, {2.5, 0, 2}, {3.5, 0, 4},
		{0.49999999999999994, 0, 0}, {0.5000000000000001, 0, 1}, {0.75, 0, 1}, {1, 0, 1}, {1.25, 0, 1},
		{1.4999999999999998, 0, 1}, {1.5000000000000002, 0, 2}, {0.25, 1, 0}, {0.75, 1, 2},
		{0x1p-33, 32, 0}, {0x1.8p-32, 32, 2}, {0x1.0000000000001p-33, 32, 1}, {0x1p-32, 32, 1},
		{math.SmallestNonzeroFloat64, 32, 0}, {greatestSmall, 32, 0}, {leastNormal, 32, 0},
		{0x1p-60, 0, 0}, {0x1p-64, 32, 0}, {0x1p-100, 32, 0}, {256, 32, 1 << 40}, {123.456, 16, 8090812},
	}
	for _, c := range cases {
		checkFixed(t, c.x, c.bits, maxMost, c.n, api.OK)
		checkFixed(t, -c.x, c.bits, maxMost, -c.n, api.OK)
	}
}

func TestFixedIsNearest(t *testing.T) {
	xs := append(near(4000), rising[1:len(rising)-1]...)
	for i, x := range xs {
		for _, bits := range []int{0, 1, 8, 16, 31, 32, i % 33} {
			for _, most := range []int{0, 1, 255, api.MaxMat, maxMost} {
				want, wantErr := slowFixed(x, bits, most)
				checkFixed(t, x, bits, most, want, wantErr)
			}
		}
	}
}

// Whatever lies near a half of a number of bits, above and below an even and an odd one.
func TestFixedAtTies(t *testing.T) {
	for bits := range 33 {
		for n := range 9 {
			half := (float64(n) + 0.5) / float64(int(1)<<bits)
			for _, x := range []float64{half, math.Nextafter(half, inf), math.Nextafter(half, -inf)} {
				for _, y := range []float64{x, -x} {
					want, wantErr := slowFixed(y, bits, 8)
					checkFixed(t, y, bits, 8, want, wantErr)
				}
			}
		}
	}
}

func TestFixedRange(t *testing.T) {
	cases := []struct {
		x             float64
		bits, most, n int
		e             api.Errno
	}{
		{9, 0, 9, 9, api.OK}, {9.4, 0, 9, 9, api.OK}, {9.5, 0, 9, 0, api.ErrRange}, {10, 0, 9, 0, api.ErrRange},
		{8.5, 0, 8, 8, api.OK}, {0.5, 0, 0, 0, api.OK}, {0.6, 0, 0, 0, api.ErrRange}, {0, 0, 0, 0, api.OK},
		{0x1p40, 0, maxMost, maxMost, api.OK}, {0x1p40 + 0.5, 0, maxMost, maxMost, api.OK},
		{0x1p40 + 0.75, 0, maxMost, 0, api.ErrRange}, {0x1p40 + 1, 0, maxMost, 0, api.ErrRange},
		{0x1p52, 0, maxMost, 0, api.ErrRange}, {0x1p20, 32, maxMost, 0, api.ErrRange},
		{0x1p31, 32, maxMost, 0, api.ErrRange}, {0x1p64, 0, maxMost, 0, api.ErrRange},
		{0x1p64, 0, 0, 0, api.ErrRange}, {0x1p63, 1, maxMost, 0, api.ErrRange}, {0x1p200, 9, 9, 0, api.ErrRange},
		{math.MaxFloat64, 0, maxMost, 0, api.ErrRange}, {math.MaxFloat64, 32, maxMost, 0, api.ErrRange},
	}
	for _, c := range cases {
		checkFixed(t, c.x, c.bits, c.most, c.n, c.e)
		checkFixed(t, -c.x, c.bits, c.most, -c.n, c.e)
	}
}

func TestFixedRefuses(t *testing.T) {
	for _, x := range []float64{0, 1, -1, inf, -inf, nan(), math.MaxFloat64} {
		for _, bits := range []int{-1, 33, 64, math.MinInt, math.MaxInt} {
			checkFixed(t, x, bits, 9, 0, api.ErrArg)
		}
		for _, most := range []int{-1, maxMost + 1, math.MinInt, math.MaxInt} {
			checkFixed(t, x, 8, most, 0, api.ErrArg)
		}
	}
	for _, bits := range []int{0, 32} {
		for _, most := range []int{0, maxMost} {
			for _, n := range nans {
				checkFixed(t, math.Float64frombits(n), bits, most, 0, api.ErrNaN)
			}
			checkFixed(t, inf, bits, most, 0, api.ErrInf)
			checkFixed(t, -inf, bits, most, 0, api.ErrInf)
		}
	}
}

func TestUnit(t *testing.T) {
	below := math.Nextafter(1, 0)
	cases := []struct {
		x      float64
		top, n int
	}{
		{0, 7, 0}, {minusZero, 7, 0}, {-inf, 7, 0}, {-1, 7, 0}, {-math.SmallestNonzeroFloat64, 7, 0},
		{-0.9, 7, 0}, {-math.MaxFloat64, maxTop, 0},
		{1, 7, 7}, {math.Nextafter(1, 2), 7, 7}, {1.5, 7, 7}, {math.MaxFloat64, 7, 7}, {inf, 7, 7},
		{inf, maxTop, maxTop}, {1, maxTop, maxTop}, {below, 7, 6}, {below, maxTop, maxTop - 1}, {below, 1, 0},
		{0.5, 7, 3}, {0.5, 8, 4}, {math.Nextafter(0.5, 0), 8, 3}, {0.9999, 10, 9}, {0.25, api.MaxZ, 4194303},
		{math.SmallestNonzeroFloat64, maxTop, 0}, {greatestSmall, maxTop, 0}, {leastNormal, maxTop, 0},
		{0x1p-24, maxTop, 1}, {math.Nextafter(0x1p-24, 0), maxTop, 0}, {0x1p-25, maxTop, 0},
		{1, 0, 0}, {0.5, 0, 0}, {inf, 0, 0}, {0, maxTop, 0}, {-inf, maxTop, 0},
	}
	for _, c := range cases {
		checkUnit(t, c.x, c.top, c.n, api.OK)
	}
}

func TestUnitIsRoundedDown(t *testing.T) {
	xs := append(near(8000), rising[1:len(rising)-1]...)
	for i, n := range noise(4000) {
		xs = append(xs, math.Float64frombits(uint64(1022-i%30)<<52|n&(1<<52-1)))
	}
	for _, x := range xs {
		for _, top := range []int{0, 1, 2, 3, 255, 1<<23 + 1, api.MaxZ, maxTop} {
			checkUnit(t, x, top, slowUnit(x, top), api.OK)
		}
	}
}

// Products that are just whole, and the floats below them.
func TestUnitAtWholeProducts(t *testing.T) {
	for _, top := range []int{1 << 10, 1 << 20, maxTop} {
		for n := range 1000 {
			x := float64(n) / float64(top)
			checkUnit(t, x, top, n, api.OK)
			checkUnit(t, math.Nextafter(x, -1), top, max(n-1, 0), api.OK)
		}
	}
}

func TestUnitRefuses(t *testing.T) {
	for _, top := range []int{-1, maxTop + 1, math.MinInt, math.MaxInt} {
		for _, x := range []float64{0, minusZero, 0.5, -1, 2, inf, -inf, nan()} {
			checkUnit(t, x, top, 0, api.ErrArg)
		}
	}
	for _, n := range nans {
		checkUnit(t, math.Float64frombits(n), 0, 0, api.ErrNaN)
		checkUnit(t, math.Float64frombits(n), maxTop, 0, api.ErrNaN)
	}
}

func TestBack(t *testing.T) {
	cases := []struct {
		n, bits int
		x       float64
	}{
		{0, 0, 0}, {0, 9, 0}, {0, 32, 0}, {1, 0, 1}, {1, 1, 0.5}, {3, 1, 1.5}, {-3, 1, -1.5}, {1, 32, 0x1p-32},
		{65536, 16, 1}, {maxBack, 0, 0x1p52}, {-maxBack, 0, -0x1p52}, {maxBack, 32, 0x1p20},
		{-maxBack, 32, -0x1p20}, {maxBack - 1, 32, 0x1.ffffffffffffep19}, {7, 3, 0.875},
	}
	for _, c := range cases {
		checkBack(t, c.n, c.bits, c.x, api.OK)
	}
	for i, n := range noise(2000) {
		k, bits := int(n>>11)-maxBack, i%33
		x, e := Back(k, bits)
		if e != api.OK || scaled(x, bits).Cmp(new(big.Rat).SetInt64(int64(k))) != 0 {
			t.Errorf("P1.4: Back(%d, %d): %v, %d", k, bits, x, e)
		}
	}
}

func TestBackRefuses(t *testing.T) {
	for _, bits := range []int{-1, 33, 64, math.MinInt, math.MaxInt} {
		checkBack(t, 1, bits, 0, api.ErrArg)
		checkBack(t, -1, bits, 0, api.ErrArg)
	}
	for _, n := range []int{maxBack + 1, -maxBack - 1, math.MinInt, math.MaxInt} {
		checkBack(t, n, 0, 0, api.ErrArg)
		checkBack(t, n, 32, 0, api.ErrArg)
	}
}

func TestCompareIsAnOrder(t *testing.T) {
	var l []float64
	for _, n := range append(noise(60), nans...) {
		l = append(l, math.Float64frombits(n))
	}
	l = append(append(l, near(20)...), rising...)
	for _, a := range l {
		for _, b := range l {
			ab := Compare(a, b)
			if ab != -Compare(b, a) || (ab == 0) != (Bits(a) == Bits(b)) || a < b && ab != -1 {
				t.Fatalf("P1.5: Compare(%v, %v): %d", a, b, ab)
			}
			for _, c := range l {
				if ab <= 0 && Compare(b, c) <= 0 && Compare(a, c) > 0 {
					t.Fatalf("P1.5: %v, %v, %v are in no order", a, b, c)
				}
			}
		}
	}
}

func TestFixedOfBackIsTheNumber(t *testing.T) {
	l := []int{0, 1, -1, 2, -2, 3, 255, -256, maxMost, -maxMost, maxMost - 1, 1 - maxMost}
	for _, n := range noise(500) {
		l = append(l, int(n>>23)-maxMost, int(n>>40)-1<<23)
	}
	for _, n := range l {
		for bits := range 33 {
			x, e := Back(n, bits)
			if e != api.OK {
				t.Fatalf("P1.5: Back(%d, %d): %d", n, bits, e)
			}
			if n <= maxMost && n >= -maxMost {
				checkFixed(t, x, bits, maxMost, n, api.OK)
			}
		}
	}
	for _, n := range []int{maxMost + 1, -maxMost - 1, maxBack, -maxBack} {
		x, _ := Back(n, 32)
		checkFixed(t, x, 32, maxMost, 0, api.ErrRange)
	}
}
