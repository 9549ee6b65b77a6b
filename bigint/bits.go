package bigint

import "hornbeam/api"

// And, Or, Xor, Not are of two's complements without an end.
func And(a, b api.Int) (api.Int, api.Errno) {
	return bitwise(a, b, func(x, y uint32) uint32 { return x & y })
}

func Or(a, b api.Int) (api.Int, api.Errno) {
	return bitwise(a, b, func(x, y uint32) uint32 { return x | y })
}

func Xor(a, b api.Int) (api.Int, api.Errno) {
	return bitwise(a, b, func(x, y uint32) uint32 { return x ^ y })
}

func Not(a api.Int) (api.Int, api.Errno) {
	return bitwise(a, api.Int{}, func(x, _ uint32) uint32 { return ^x })
}

// bitwise goes one limb beyond the longer of both, where only signs are left:
// what op makes of them is the sign of the answer.
func bitwise(a, b api.Int, op func(x, y uint32) uint32) (api.Int, api.Errno) {
	if long(a, b) {
		return api.Int{}, api.ErrIntLong
	}
	size := max(len(trim(a.Mag)), len(trim(b.Mag))) + 1
	x, y := complement(a, size), complement(b, size)
	for i := range x {
		x[i] = op(x[i], y[i])
	}
	neg := x[size-1] != 0
	if neg {
		negate(x)
	}
	return fit(neg, x)
}

// complement is the lowest limbs of a's two's complement, as many as size.
func complement(a api.Int, size int) []uint32 {
	out := make([]uint32, size)
	copy(out, trim(a.Mag))
	if a.Neg {
		negate(out)
	}
	return out
}

// negate changes a two's complement to that of the other sign.
func negate(limbs []uint32) {
	carry := uint64(1)
	for i, limb := range limbs {
		carry += uint64(^limb)
		limbs[i] = uint32(carry)
		carry >>= limbBits
	}
}
