package bigint

import (
	"math/bits"

	"hornbeam/api"
)

// QuoRem divides; the quotient is cut towards nought.
func QuoRem(a, b api.Int) (api.Int, api.Int, api.Errno) {
	quo, rem, e := divideBoth(a, b)
	if e != api.OK {
		return api.Int{}, api.Int{}, e
	}
	return give(a.Neg != b.Neg, quo), give(a.Neg, rem), api.OK
}

// DivMod divides; the quotient is cut downwards.
func DivMod(a, b api.Int) (api.Int, api.Int, api.Errno) {
	quo, rem, e := divideBoth(a, b)
	if e != api.OK {
		return api.Int{}, api.Int{}, e
	}
	if a.Neg != b.Neg && len(rem) > 0 {
		quo, rem = sum(quo, limbsOf(1)), difference(trim(b.Mag), rem)
	}
	return give(a.Neg != b.Neg, quo), give(b.Neg, rem), api.OK
}

// divideBoth divides the magnitudes; the remainder is trimmed. Neither it nor
// the quotient, cut one way or the other, can be longer than what is divided.
func divideBoth(a, b api.Int) (quo, rem []uint32, e api.Errno) {
	if long(a, b) {
		return nil, nil, api.ErrIntLong
	}
	if Sign(b) == 0 {
		return nil, nil, api.ErrIntZero
	}
	quo, rem = divide(trim(a.Mag), trim(b.Mag))
	return quo, trim(rem), api.OK
}

// divide takes two trimmed magnitudes, the second not nought. The remainder
// may share memory with the first.
func divide(a, b []uint32) (quo, rem []uint32) {
	if compare(a, b) < 0 {
		return nil, a
	}
	if len(b) == 1 {
		quo, small := divideSmall(a, b[0])
		return quo, []uint32{small}
	}
	// A divisor whose highest bit is 1 lets its two highest limbs tell each
	// limb of the quotient but for one.
	n, up := len(b), bits.LeadingZeros32(b[len(b)-1])
	divisor, left := shiftUp(b, up)[:n], shiftUp(a, up)
	quo = make([]uint32, len(a)-n+1)
	for i := len(quo) - 1; i >= 0; i-- {
		// The row's bound keeps a step from reaching into the limbs above it.
		quo[i] = reduceRow(left[i:i+n+1:i+n+1], divisor)
	}
	rem, _ = shiftDown(left[:n], up)
	return quo, rem
}

// divideSmall divides by one limb that is not nought.
func divideSmall(a []uint32, b uint32) ([]uint32, uint32) {
	quo := make([]uint32, len(a))
	var rem uint64
	for i := len(a) - 1; i >= 0; i-- {
		rem = rem<<limbBits | uint64(a[i])
		quo[i] = uint32(rem / uint64(b))
		rem %= uint64(b)
	}
	return quo, uint32(rem)
}

// reduceRow changes row, which has one limb more than divisor, to what is left
// of it, and answers how many times divisor went into it: less than 2^32.
func reduceRow(row, divisor []uint32) uint32 {
	times := guessTimes(row, divisor)
	if takeTimes(row, divisor, times) {
		putBack(row, divisor)
		times--
	}
	return uint32(times)
}

// guessTimes is how many times divisor goes into row, or one more.
func guessTimes(row, divisor []uint32) uint64 {
	n := len(divisor)
	high := uint64(divisor[n-1])
	top := uint64(row[n])<<limbBits | uint64(row[n-1])
	times, rest := top/high, top%high
	for times>>limbBits != 0 || times*uint64(divisor[n-2]) > rest<<limbBits|uint64(row[n-2]) {
		times--
		rest += high
		if rest>>limbBits != 0 {
			break
		}
	}
	return times
}

// takeTimes takes divisor so many times from row, and tells whether that was
// once too often.
func takeTimes(row, divisor []uint32, times uint64) bool {
	var carry, borrow uint64
	for i, limb := range divisor {
		carry += times * uint64(limb)
		d := uint64(row[i]) - uint64(uint32(carry)) - borrow
		row[i] = uint32(d)
		borrow = d >> 63
		carry >>= limbBits
	}
	n := len(divisor)
	d := uint64(row[n]) - carry - borrow
	row[n] = uint32(d)
	return d>>63 != 0
}

// putBack adds divisor to row, whose highest limb ends the borrow by wrapping.
func putBack(row, divisor []uint32) {
	var carry uint64
	for i, limb := range divisor {
		carry += uint64(row[i]) + uint64(limb)
		row[i] = uint32(carry)
		carry >>= limbBits
	}
	row[len(divisor)] += uint32(carry)
}
