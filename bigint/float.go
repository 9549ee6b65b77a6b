package bigint

import "hornbeam/api"

// How a float64 is laid: a sign, an exponent, and the bits of its significand
// behind the first, which is not written.
const (
	floatBits     = 53
	floatBias     = 1023
	floatInfinity = 0x7ff << (floatBits - 1)
	floatSign     = 1 << 63
)

// ToFloat is the nearest float's bits.
func ToFloat(a api.Int) (uint64, api.Errno) {
	mag := trim(a.Mag)
	size := bitsOf(mag)
	switch {
	case size > api.MaxBits:
		return 0, api.ErrIntLong
	case size > floatBias+1:
		return 0, api.ErrIntFloat
	case size == 0:
		return 0, api.OK
	}
	// The significand's first bit is added to the exponent, and so is what
	// rounding carries.
	out := uint64(size+floatBias-2)<<(floatBits-1) + significand(mag, size)
	if out >= floatInfinity {
		return 0, api.ErrIntFloat
	}
	if a.Neg {
		out |= floatSign
	}
	return out, api.OK
}

// significand is the highest floatBits bits of a magnitude of size bits, to
// the nearest, of two as near the even one.
func significand(mag []uint32, size int) uint64 {
	var lost bool
	if size > floatBits {
		mag, lost = shiftDown(mag, size-floatBits-1)
	} else {
		mag = shiftUp(mag, floatBits+1-size)
	}
	twice := wordOf(mag)
	out := twice >> 1
	if half := twice&1 == 1; half && (lost || out&1 == 1) {
		out++
	}
	return out
}

// OfFloat is the integer part of the float of some bits.
func OfFloat(bits uint64) (api.Int, api.Errno) {
	rest := bits &^ floatSign
	if rest >= floatInfinity {
		return api.Int{}, api.ErrIntFloat
	}
	up := int(rest>>(floatBits-1)) - floatBias
	if up < 0 {
		return api.Int{}, api.OK
	}
	const first = 1 << (floatBits - 1)
	mag := limbsOf(rest&(first-1) | first)
	if up < floatBits {
		mag, _ = shiftDown(mag, floatBits-1-up)
	} else {
		mag = shiftUp(mag, up-(floatBits-1))
	}
	return fit(bits&floatSign != 0, mag)
}
