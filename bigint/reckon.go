package bigint

import (
	"math/bits"

	"hornbeam/api"
)

// Add is the sum.
func Add(a, b api.Int) (api.Int, api.Errno) { return add(a, b, b.Neg) }

// Sub is the difference.
func Sub(a, b api.Int) (api.Int, api.Errno) { return add(a, b, !b.Neg) }

// add takes b with another sign than its own, if negB says so.
func add(a, b api.Int, negB bool) (api.Int, api.Errno) {
	if long(a, b) {
		return api.Int{}, api.ErrIntLong
	}
	x, y := trim(a.Mag), trim(b.Mag)
	switch {
	case a.Neg == negB:
		return fit(a.Neg, sum(x, y))
	case compare(x, y) >= 0:
		return fit(a.Neg, difference(x, y))
	}
	return fit(negB, difference(y, x))
}

// Mul is the product.
func Mul(a, b api.Int) (api.Int, api.Errno) {
	if long(a, b) {
		return api.Int{}, api.ErrIntLong
	}
	return fit(a.Neg != b.Neg, product(trim(a.Mag), trim(b.Mag)))
}

// Gcd is the greatest common divisor.
func Gcd(a, b api.Int) (api.Int, api.Errno) {
	if long(a, b) {
		return api.Int{}, api.ErrIntLong
	}
	x, y := trim(a.Mag), trim(b.Mag)
	for len(y) > 0 {
		_, rem := divide(x, y)
		x, y = y, trim(rem)
	}
	return fit(false, x)
}

// Pow is a to the power of n.
func Pow(a api.Int, n int) (api.Int, api.Errno) {
	if long(a) {
		return api.Int{}, api.ErrIntLong
	}
	if n < 0 {
		return api.Int{}, api.ErrIntArg
	}
	out, e := From(1), api.OK
	// From the highest bit of n on nothing on the way is greater than the
	// power itself, so that the first that is too long ends it.
	for i := bits.Len(uint(n)) - 1; i >= 0 && e == api.OK; i-- {
		out, e = Mul(out, out)
		if e == api.OK && n>>uint(i)&1 == 1 {
			out, e = Mul(out, a)
		}
	}
	return out, e
}

// Shift is a by 2 to the power of n, cut downwards.
func Shift(a api.Int, n int) (api.Int, api.Errno) {
	if long(a) {
		return api.Int{}, api.ErrIntLong
	}
	mag := trim(a.Mag)
	if len(mag) == 0 {
		return api.Int{}, api.OK
	}
	if n < 0 {
		return shiftFloor(a.Neg, mag, n)
	}
	if n > api.MaxBits-bitsOf(mag) {
		return api.Int{}, api.ErrIntLong
	}
	return fit(a.Neg, shiftUp(mag, n))
}

func shiftFloor(neg bool, mag []uint32, n int) (api.Int, api.Errno) {
	// Beyond MaxBits nothing is left to lose, and the least int has no opposite.
	out, lost := shiftDown(mag, -max(n, -api.MaxBits))
	if neg && lost {
		out = sum(out, limbsOf(1))
	}
	return fit(neg, out)
}
