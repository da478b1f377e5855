// Package qmath: Whole numbers that don't run over: see doc/01-qmath.md.
package qmath

import (
	"math"
	"math/bits"

	"dipper/api"
)

// Add: the exact sum; ErrOver, if an int64 hasn't it.
func Add(a, b int64) (int64, api.Errno) {
	sum := a + b
	// a sum that wrapped round has the other sign than both of its parts
	if (a^sum)&(b^sum) < 0 {
		return 0, api.ErrOver
	}
	return sum, api.OK
}

// Sub: the exact difference; ErrOver, if an int64 hasn't it.
func Sub(a, b int64) (int64, api.Errno) {
	rest := a - b
	// a difference that wrapped round has b's sign, where a has the other one
	if (a^b)&(a^rest) < 0 {
		return 0, api.ErrOver
	}
	return rest, api.OK
}

// Mul: the exact product; ErrOver, if an int64 hasn't it.
func Mul(a, b int64) (int64, api.Errno) {
	return MulDiv(a, b, 1, false)
}

// MulDiv: a times b by by, made whole downwards or upwards; ErrZero, then ErrOver.
func MulDiv(a, b, by int64, up bool) (int64, api.Errno) {
	if by == 0 {
		return 0, api.ErrZero
	}
	below := (a < 0) != (b < 0) != (by < 0)
	high, low := bits.Mul64(size(a), size(b))
	divisor := size(by)
	// a quotient of more than 64 bits: Div64 would panic
	if high >= divisor {
		return 0, api.ErrOver
	}
	quotient, rest := bits.Div64(high, low, divisor)
	// up above nought and down below it both lead away from nought
	if rest > 0 && up != below {
		// it would wrap round to nought, which fits
		if quotient == math.MaxUint64 {
			return 0, api.ErrOver
		}
		quotient++
	}
	return signed(quotient, below)
}

// Sqrt: the root whose square isn't above a, or (up) isn't below; ErrRange of a below 0.
func Sqrt(a int64, up bool) (int64, api.Errno) {
	// 32 bits: no square of them runs over 64
	return root(a, 2, 32, up)
}

// Cbrt: the root whose cube isn't above a, or (up) isn't below; ErrRange of a below 0.
func Cbrt(a int64, up bool) (int64, api.Errno) {
	// 21 bits: no cube of them runs over 63, and none of 22 is needed
	return root(a, 3, 21, up)
}

// size: how far a is from nought; unsigned, because the least int64 has no counterpart above nought.
func size(a int64) uint64 {
	if a < 0 {
		return -uint64(a)
	}
	return uint64(a)
}

// signed: the number of that size above or below nought; ErrOver, if an int64 hasn't it.
func signed(size uint64, below bool) (int64, api.Errno) {
	most := uint64(math.MaxInt64)
	if !below {
		if size > most {
			return 0, api.ErrOver
		}
		return int64(size), api.OK
	}
	if size > most+1 {
		return 0, api.ErrOver
	}
	// turned round while unsigned: the least int64 can't be turned round afterwards
	return int64(-size), api.OK
}

// root is found bit by bit from the highest one that it may have: no float is exact at 63 bits.
func root(a int64, exponent, width int, up bool) (int64, api.Errno) {
	if a < 0 {
		return 0, api.ErrRange
	}
	most := uint64(a)
	found := uint64(0)
	for bit := uint64(1) << (width - 1); bit > 0; bit >>= 1 {
		if power(found|bit, exponent) <= most {
			found |= bit
		}
	}
	if up && power(found, exponent) < most {
		found++
	}
	return int64(found), api.OK
}

// power trusts its caller that the product fits 64 bits.
func power(base uint64, exponent int) uint64 {
	product := uint64(1)
	for range exponent {
		product *= base
	}
	return product
}
