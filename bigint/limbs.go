package bigint

import "math/bits"

const limbBits = 32

// Magnitudes here are limbs, the lowest first. What is handed to a function of
// this file is only read, but where its name says that it is changed.

// trim leaves off the noughts at the high end. It shares the memory of mag.
func trim(mag []uint32) []uint32 {
	n := len(mag)
	for n > 0 && mag[n-1] == 0 {
		n--
	}
	return mag[:n]
}

func limbsOf(n uint64) []uint32 {
	return []uint32{uint32(n), uint32(n >> limbBits)}
}

// wordOf is the number that the two lowest limbs make.
func wordOf(mag []uint32) uint64 {
	var n uint64
	for i := min(len(mag), 2) - 1; i >= 0; i-- {
		n = n<<limbBits | uint64(mag[i])
	}
	return n
}

// bitsOf takes a trimmed magnitude.
func bitsOf(mag []uint32) int {
	if len(mag) == 0 {
		return 0
	}
	return (len(mag)-1)*limbBits + bits.Len32(mag[len(mag)-1])
}

// compare takes two trimmed magnitudes.
func compare(a, b []uint32) int {
	switch {
	case len(a) < len(b):
		return -1
	case len(a) > len(b):
		return 1
	}
	for i := len(a) - 1; i >= 0; i-- {
		switch {
		case a[i] < b[i]:
			return -1
		case a[i] > b[i]:
			return 1
		}
	}
	return 0
}

func sum(a, b []uint32) []uint32 {
	if len(a) < len(b) {
		a, b = b, a
	}
	out := make([]uint32, len(a)+1)
	var carry uint64
	for i, limb := range a {
		carry += uint64(limb)
		if i < len(b) {
			carry += uint64(b[i])
		}
		out[i] = uint32(carry)
		carry >>= limbBits
	}
	out[len(a)] = uint32(carry)
	return out
}

// difference takes two trimmed magnitudes, the first at least as great.
func difference(a, b []uint32) []uint32 {
	out := make([]uint32, len(a))
	var borrow uint64
	for i, limb := range a {
		d := uint64(limb) - borrow
		if i < len(b) {
			d -= uint64(b[i])
		}
		out[i] = uint32(d)
		borrow = d >> 63
	}
	return out
}

func product(a, b []uint32) []uint32 {
	out := make([]uint32, len(a)+len(b))
	for i, x := range a {
		var carry uint64
		for j, y := range b {
			carry += uint64(x)*uint64(y) + uint64(out[i+j])
			out[i+j] = uint32(carry)
			carry >>= limbBits
		}
		out[i+len(b)] = uint32(carry)
	}
	return out
}

// shiftUp is mag times 2 to the power of n: as many limbs as mag has, as those
// that n passes over, and one.
func shiftUp(mag []uint32, n int) []uint32 {
	whole, part := n/limbBits, uint(n%limbBits)
	out := make([]uint32, len(mag)+whole+1)
	var carry uint64
	for i, limb := range mag {
		carry |= uint64(limb) << part
		out[i+whole] = uint32(carry)
		carry >>= limbBits
	}
	out[len(mag)+whole] = uint32(carry)
	return out
}

// shiftDown is mag through 2 to the power of n, and whether a bit was lost.
func shiftDown(mag []uint32, n int) ([]uint32, bool) {
	whole, part := n/limbBits, uint(n%limbBits)
	if whole >= len(mag) {
		return nil, len(trim(mag)) > 0
	}
	lost := len(trim(mag[:whole])) > 0 || mag[whole]&(1<<part-1) != 0
	out := make([]uint32, len(mag)-whole)
	var high uint64
	for i := len(out) - 1; i >= 0; i-- {
		high = high<<limbBits | uint64(mag[whole+i])
		out[i] = uint32(high >> part)
	}
	return out, lost
}
