package bigint

import (
	"math"
	"slices"
	"strings"

	"hornbeam/api"
)

const digits = "0123456789abcdefghijklmnopqrstuvwxyz"

// Parse reads digits of a radix.
func Parse(s string, radix int) (api.Int, api.Errno) {
	if !isRadix(radix) {
		return api.Int{}, api.ErrIntRadix
	}
	text, neg := strings.CutPrefix(s, "-")
	if !areDigits(text, radix) {
		return api.Int{}, api.ErrIntText
	}
	text = strings.TrimLeft(text, "0")
	// A digit makes a bit at least, so that a longer text need not be reckoned.
	if len(text) > api.MaxBits {
		return api.Int{}, api.ErrIntLong
	}
	return fit(neg, readDigits(text, radix))
}

// Text writes them.
func Text(a api.Int, radix int) (string, api.Errno) {
	if long(a) {
		return "", api.ErrIntLong
	}
	if !isRadix(radix) {
		return "", api.ErrIntRadix
	}
	if Sign(a) == 0 {
		return "0", api.OK
	}
	out := lowDigitsFirst(trim(a.Mag), radix)
	if a.Neg {
		out = append(out, '-')
	}
	slices.Reverse(out)
	return string(out), api.OK
}

func isRadix(radix int) bool { return radix >= 2 && radix <= len(digits) }

func areDigits(text string, radix int) bool {
	for i := range len(text) {
		if digitOf(text[i]) >= radix {
			return false
		}
	}
	return len(text) > 0
}

// digitOf is what a digit counts: more than any radix has, if c is none.
func digitOf(c byte) int {
	switch {
	case c >= '0' && c <= '9':
		return int(c - '0')
	case c >= 'a' && c <= 'z':
		return int(c-'a') + 10
	case c >= 'A' && c <= 'Z':
		return int(c-'A') + 10
	}
	return len(digits)
}

// groupOf is how many digits go into one limb, and radix to their power: by
// groups the limbs are gone through less often than by single digits.
func groupOf(radix int) (width int, power uint32) {
	r := uint64(radix)
	width, p := 1, r
	for p*r <= math.MaxUint32 {
		width, p = width+1, p*r
	}
	return width, uint32(p)
}

func readDigits(text string, radix int) []uint32 {
	width, power := groupOf(radix)
	var mag []uint32
	// Only the first group may be short: nothing stands ahead of it to scale.
	for take := (len(text)+width-1)%width + 1; len(text) > 0; take = width {
		var group uint32
		for i := range take {
			group = group*uint32(radix) + uint32(digitOf(text[i]))
		}
		mag = appendGroup(mag, power, group)
		text = text[take:]
	}
	return mag
}

// appendGroup changes mag to mag times power and group together.
func appendGroup(mag []uint32, power, group uint32) []uint32 {
	carry := uint64(group)
	for i, limb := range mag {
		carry += uint64(limb) * uint64(power)
		mag[i] = uint32(carry)
		carry >>= limbBits
	}
	if carry > 0 {
		mag = append(mag, uint32(carry))
	}
	return mag
}

// lowDigitsFirst are the digits of a trimmed magnitude, none of them a nought
// at its end.
func lowDigitsFirst(mag []uint32, radix int) []byte {
	width, power := groupOf(radix)
	var out []byte
	for len(mag) > 0 {
		quo, group := divideSmall(mag, power)
		mag = trim(quo)
		for i := 0; i < width && (group > 0 || len(mag) > 0); i++ {
			out = append(out, digits[group%uint32(radix)])
			group /= uint32(radix)
		}
	}
	return out
}
