// Package bigint is layer 1: integers without an end: see shared/doc/01-bigint.md.
package bigint

import (
	"math"

	"hornbeam/api"
)

// Norm is the same integer, normal.
func Norm(a api.Int) api.Int { return give(a.Neg, a.Mag) }

// From is a small integer.
func From(n int) api.Int {
	mag := uint64(n)
	if n < 0 {
		// Unsigned, for the least int has no opposite among the ints.
		mag = -mag
	}
	return give(n < 0, limbsOf(mag))
}

// To is an integer as a small one; false: it is too great.
func To(a api.Int) (int, bool) {
	mag := trim(a.Mag)
	if len(mag) > 2 {
		return 0, false
	}
	n := wordOf(mag)
	if !a.Neg {
		return toSmall(n)
	}
	if n > -math.MinInt64 {
		return 0, false
	}
	return int(-n), true
}

func toSmall(n uint64) (int, bool) {
	if n > math.MaxInt64 {
		return 0, false
	}
	return int(n), true
}

// Sign is -1, 0 or 1.
func Sign(a api.Int) int {
	switch {
	case len(trim(a.Mag)) == 0:
		return 0
	case a.Neg:
		return -1
	}
	return 1
}

// Cmp is -1, 0 or 1: a is less, the same, more.
func Cmp(a, b api.Int) int {
	sa, sb := Sign(a), Sign(b)
	switch {
	case sa < sb:
		return -1
	case sa > sb:
		return 1
	}
	return sa * compare(trim(a.Mag), trim(b.Mag))
}

// Bits is how many bits the magnitude has.
func Bits(a api.Int) int { return bitsOf(trim(a.Mag)) }

// Neg is what is left of nought behind a.
func Neg(a api.Int) api.Int { return give(!a.Neg, a.Mag) }

// give is the integer of a sign and limbs, normal. All answers go out through
// it, so that none shares memory with an argument or with another answer.
func give(neg bool, mag []uint32) api.Int {
	mag = trim(mag)
	if len(mag) == 0 {
		return api.Int{}
	}
	out := make([]uint32, len(mag))
	copy(out, mag)
	return api.Int{Neg: neg, Mag: out}
}

// fit is give, for what may have come to be too long.
func fit(neg bool, mag []uint32) (api.Int, api.Errno) {
	if bitsOf(trim(mag)) > api.MaxBits {
		return api.Int{}, api.ErrIntLong
	}
	return give(neg, mag), api.OK
}

// long tells whether one of some integers has more than MaxBits bits.
func long(l ...api.Int) bool {
	for _, a := range l {
		if Bits(a) > api.MaxBits {
			return true
		}
	}
	return false
}
