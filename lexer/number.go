package lexer

import (
	"math"
	"strconv"
	"strings"
	"unicode/utf8"

	"hornbeam/api"
	"hornbeam/bigint"
)

// So many digits a float may have: ahead of its e, in all, and behind it.
const (
	maxDigits   = 400
	maxExponent = 4
)

// number makes the token of the number that begins at a place.
func number(text string, at int) (api.Token, api.Errno) {
	digits := row(text, at, isDigit)
	behind := at + len(digits)
	switch {
	case strings.HasPrefix(text[at:], "0'"):
		if token, fits, errno := character(text, at); fits {
			return token, errno
		}
		fallthrough
	case digits == "0":
		if token, fits, errno := inRadix(text, at); fits {
			return token, errno
		}
		fallthrough
	case strings.HasPrefix(text[behind:], "."):
		if token, fits, errno := float(text, at, behind); fits {
			return token, errno
		}
		fallthrough
	default:
		return integer(digits, 10, at, behind)
	}
}

// character tries what begins with 0' at a place as the number of a character.
func character(text string, at int) (api.Token, bool, api.Errno) {
	from := at + len("0'")
	char, size := utf8.DecodeRuneInString(text[from:])
	end := from + size
	switch {
	case size == 0 || char == '\n':
		return api.Token{}, false, api.OK
	case isBad(char, text[from:]):
		token, errno := wrong(from, api.ErrLexByte)
		return token, true, errno
	case char == '\\':
		if char, end = escape(text, from); end == from || char == lineGoesOn {
			token, errno := wrong(from, api.ErrLexEscape)
			return token, true, errno
		}
	case strings.HasPrefix(text[from:], "''"):
		end++
	case char == '\'':
		return api.Token{}, false, api.OK
	}
	return api.Token{Kind: api.TInt, Num: strconv.Itoa(int(char)), At: at, End: end}, true, api.OK
}

// inRadix tries what begins with 0 at a place as an integer of the radix that
// the letter behind it tells.
func inRadix(text string, at int) (api.Token, bool, api.Errno) {
	from := at + len("0x")
	if from >= len(text) {
		return api.Token{}, false, api.OK
	}
	radix := radixOf(text[from-1])
	digits := row(text, from, digitsOf(radix))
	if digits == "" {
		return api.Token{}, false, api.OK
	}
	token, errno := integer(digits, radix, at, from+len(digits))
	return token, true, errno
}

// radixOf is the radix that a letter tells: 0, which has no digits, if none.
func radixOf(letter byte) int {
	switch letter {
	case 'b':
		return 2
	case 'o':
		return 8
	case 'x':
		return 16
	}
	return 0
}

// digitsOf is the class of the digits of a radix.
func digitsOf(radix int) func(rune) bool {
	return func(char rune) bool { return worth(char) < radix }
}

// worth is what a digit counts: more than one of any radix, if it is none.
func worth(digit rune) int {
	switch {
	case isDigit(digit):
		return int(digit - '0')
	case digit >= 'a' && digit <= 'f':
		return int(digit-'a') + 10
	case digit >= 'A' && digit <= 'F':
		return int(digit-'A') + 10
	}
	return 16
}

func integer(digits string, radix, at, end int) (api.Token, api.Errno) {
	n, errno := bigint.Parse(digits, radix)
	if errno != api.OK {
		return wrong(at, api.ErrLexNumber)
	}
	decimal, _ := bigint.Text(n, 10)
	return api.Token{Kind: api.TInt, Num: decimal, At: at, End: end}, api.OK
}

// float tries what begins at a place, its row of digits ahead of another place,
// as a float.
func float(text string, at, point int) (api.Token, bool, api.Errno) {
	if !strings.HasPrefix(text[point:], ".") {
		return api.Token{}, false, api.OK
	}
	parts := row(text, point+1, isDigit)
	if parts == "" {
		return api.Token{}, false, api.OK
	}
	end := point + 1 + len(parts)
	exponent, length := exponentOf(text[end:])
	// What is too long is not reckoned out.
	long := point-at+len(parts) > maxDigits || len(exponent) > maxExponent
	end += length
	if !long {
		if value, err := strconv.ParseFloat(text[at:end], 64); err == nil {
			return api.Token{Kind: api.TFloat, Bits: math.Float64bits(value), At: at, End: end}, true, api.OK
		}
	}
	token, errno := wrong(at, api.ErrLexNumber)
	return token, true, errno
}

// exponentOf is the exponent's digits, if a text begins with one, and how long
// it is with what stands ahead of them.
func exponentOf(text string) (string, int) {
	if text == "" || text[0] != 'e' && text[0] != 'E' {
		return "", 0
	}
	from := 1
	if from < len(text) && (text[from] == '+' || text[from] == '-') {
		from++
	}
	digits := row(text, from, isDigit)
	if digits == "" {
		return "", 0
	}
	return digits, from + len(digits)
}
