// Package money reckons with amounts that may be too great.
package money

import (
	"math/bits"

	"variorum/api"
)

const maxFactor = 1_000_000_000 // the greatest numerator and denominator of Scale

// Fits tells whether amounts may be.
func Fits(l ...int) bool {
	for _, x := range l {
		if x < -api.MaxMoney || x > api.MaxMoney {
			return false
		}
	}
	return true
}

// Add tells the sum.
func Add(l ...int) (int, api.Errno) {
	if !Fits(l...) {
		return 0, api.ErrMoney
	}
	// Two words hold the sum: on its way it may leave what one word holds, and come back.
	var high, low, carry uint64
	for _, x := range l {
		low, carry = bits.Add64(low, uint64(x), 0)
		high, _ = bits.Add64(high, signWord(x), carry)
	}
	sum := int(low)
	if high != signWord(sum) || !Fits(sum) {
		return 0, api.ErrMoney
	}
	return sum, api.OK
}

// signWord tells the high word of a number that is written in two.
func signWord(x int) uint64 {
	return uint64(int64(x) >> 63)
}

// Scale tells an amount times a fraction, rounded.
func Scale(a, num, den int) (int, api.Errno) {
	if !Fits(a) || num < 0 || num > maxFactor || den < 1 || den > maxFactor {
		return 0, api.ErrArg
	}
	high, low := bits.Mul64(size(a), uint64(num))
	if high >= uint64(den) { // the quotient would not fit into a word, and Div64 would panic
		return 0, api.ErrMoney
	}
	quotient, rest := bits.Div64(high, low, uint64(den))
	if quotient > api.MaxMoney { // told ahead of rounding, which could wrap the greatest word round to 0
		return 0, api.ErrMoney
	}
	if roundsUp(quotient, rest, uint64(den)) {
		quotient++
	}
	if quotient > api.MaxMoney {
		return 0, api.ErrMoney
	}
	return withSign(quotient, a), api.OK
}

// roundsUp tells whether the even-half rule takes a quotient one up.
func roundsUp(quotient, rest, den uint64) bool {
	twice := 2 * rest
	return twice > den || twice == den && quotient%2 == 1
}

// size tells an amount that fits without its sign.
func size(a int) uint64 {
	if a < 0 {
		return uint64(-a)
	}
	return uint64(a)
}

// withSign gives an unsigned amount that fits the sign of a.
func withSign(unsigned uint64, a int) int {
	if a < 0 {
		return -int(unsigned)
	}
	return int(unsigned)
}
