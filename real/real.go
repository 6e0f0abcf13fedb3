// Package real is layer 1: floats by their bits, and the fixed numbers that come of them.
package real

import (
	"cmp"
	"math"

	"rastrum/api"
)

// The kinds of floats.
const (
	NaN = iota + 1
	Endless
	Nought
	Small
	Usual
)

// How the 64 bits of a float lie: a sign, an exponent, a fraction.
const (
	fractionBits = 52
	fractionMask = 1<<fractionBits - 1
	exponentMask = 1<<11 - 1
	exponentBias = 1023
	oneNaN       = 0x7ff8000000000001
)

// The bounds of arguments.
const (
	maxBits = 32
	maxMost = 1 << 40
	maxTop  = 1 << 24
	maxBack = 1 << 52
)

// Kind tells which kind of float x is.
func Kind(x float64) int {
	exponent, fraction := fields(x)
	switch {
	case exponent == exponentMask && fraction != 0:
		return NaN
	case exponent == exponentMask:
		return Endless
	case exponent != 0:
		return Usual
	case fraction != 0:
		return Small
	}
	return Nought
}

// Minus tells whether the sign of x is set; a NaN has none.
func Minus(x float64) bool {
	return Bits(x) < 0
}

// Compare holds a against b: -1, 0 or 1 by the order of floats.
func Compare(a, b float64) int {
	return cmp.Compare(rank(a), rank(b))
}

// Fixed rounds x times 2^bits to the nearest whole number, which is from -most to most.
func Fixed(x float64, bits, most int) (int, api.Errno) {
	if !among(bits, 0, maxBits) || !among(most, 0, maxMost) {
		return 0, api.ErrArg
	}
	switch Kind(x) {
	case NaN:
		return 0, api.ErrNaN
	case Endless:
		return 0, api.ErrInf
	}
	whole, down := parts(x)
	if down <= bits {
		// Only a usual float gets here, and its whole is at least 2^52: above any most.
		return 0, api.ErrRange
	}
	n := nearest(whole, down-bits)
	if n > most {
		return 0, api.ErrRange
	}
	if Minus(x) {
		return -n, api.OK
	}
	return n, api.OK
}

// Unit rounds x times top down, x brought among 0 and 1.
func Unit(x float64, top int) (int, api.Errno) {
	switch {
	case !among(top, 0, maxTop):
		return 0, api.ErrArg
	case Kind(x) == NaN:
		return 0, api.ErrNaN
	case Minus(x):
		return 0, api.OK
	case x >= 1:
		return top, api.OK
	}
	whole, down := parts(x)
	return share(whole, top, down), api.OK
}

// Back divides n by 2^bits.
func Back(n, bits int) (float64, api.Errno) {
	if !among(bits, 0, maxBits) || !among(n, -maxBack, maxBack) {
		return 0, api.ErrArg
	}
	return float64(n) / float64(int(1)<<bits), api.OK
}

// Bits answers the bits of x, all NaNs having the same ones.
func Bits(x float64) int {
	if Kind(x) == NaN {
		return oneNaN
	}
	return int(math.Float64bits(x))
}

// Of answers the float whose bits are n, all NaNs being the same one.
func Of(n int) float64 {
	x := math.Float64frombits(uint64(n))
	if Kind(x) == NaN {
		return math.Float64frombits(oneNaN)
	}
	return x
}

func among(n, least, most int) bool {
	return least <= n && n <= most
}

// fields parts the bits of x but for its sign.
func fields(x float64) (exponent, fraction int) {
	n := math.Float64bits(x)
	return int(n >> fractionBits & exponentMask), int(n & fractionMask)
}

// parts tells x without its sign, which is not endless and a number, as whole divided by 2^down.
func parts(x float64) (whole, down int) {
	exponent, fraction := fields(x)
	if exponent == 0 {
		// Nought and small floats lack the leading bit and share the least normal one's exponent.
		return fraction, exponentBias + fractionBits - 1
	}
	return fraction | 1<<fractionBits, exponentBias + fractionBits - exponent
}

// rank is a whole number that rises with the order of floats.
func rank(x float64) int {
	n := Bits(x)
	if n < 0 {
		// The further a float lies below nought, the greater are its bits but the sign.
		return n ^ math.MaxInt
	}
	return n
}

// nearest divides whole, from 0 on and below 2^53, by 2^down, down at least 1, a tie going to the even number.
func nearest(whole, down int) int {
	if down > fractionBits+2 {
		// Less than a half; so large a shift would not fit an int.
		return 0
	}
	n := whole >> down
	rest, half := whole-n<<down, 1<<(down-1)
	if rest > half || rest == half && n&1 == 1 {
		n++
	}
	return n
}

// share divides whole times top by 2^down, rounded down; whole is below 2^down and 2^53, down at least 53.
func share(whole, top, down int) int {
	// The product may have 77 bits. Rounded down twice is rounded down once, so the low bits may go ahead.
	const low = 29
	n := (whole>>low)*top + (whole&(1<<low-1))*top>>low
	return n >> (down - low)
}
