package lexer

import (
	"strings"
	"unicode/utf8"

	"hornbeam/api"
)

// quoted makes the token whose first quote stands at a place.
func quoted(kind int, text string, at int) (api.Token, api.Errno) {
	quote, from := rune(text[at]), at+1
	var word strings.Builder
	behind := from // the place behind all that has been taken for what it means
	for place, char := range text[from:] {
		place += from
		if place < behind {
			continue
		}
		behind = place + utf8.RuneLen(char)
		switch {
		case isBad(char, text[place:]):
			return wrong(place, api.ErrLexByte)
		case char == '\n':
			return wrong(at, api.ErrLexQuote)
		case char == '\\':
			if char, behind = escape(text, place); behind == place {
				return wrong(place, api.ErrLexEscape)
			}
			if char == lineGoesOn {
				continue
			}
		case char == quote && !strings.HasPrefix(text[behind:], string(quote)):
			return worded(kind, word.String(), at, behind)
		case char == quote:
			behind++
		}
		word.WriteRune(char)
	}
	return wrong(at, api.ErrLexQuote)
}

// lineGoesOn is what a backslash at a line's end means: no character.
const lineGoesOn rune = -1

// escape is what the backslash at a place means together with what stands
// behind it, and the place behind all of it; that of the backslash, if it means
// nothing.
func escape(text string, at int) (rune, int) {
	const letters, meant = "abfnrtv\\'\"`\n", "\a\b\f\n\r\t\v\\'\"`"
	if at+1 == len(text) {
		return 0, at
	}
	which := strings.IndexByte(letters, text[at+1])
	switch {
	case which == len(meant):
		return lineGoesOn, at + 2
	case which >= 0:
		return rune(meant[which]), at + 2
	case text[at+1] == 'x':
		return numbered(text, at, at+2, 16)
	}
	return numbered(text, at, at+1, 8)
}

// numbered is escape, of one that tells a character by its number, whose digits
// begin at a place.
func numbered(text string, at, from, radix int) (rune, int) {
	digits := row(text, from, digitsOf(radix))
	end := from + len(digits)
	code := rune(0)
	for _, digit := range digits {
		// More than that is no character, however it goes on.
		code = min(code*rune(radix)+rune(worth(digit)), utf8.MaxRune+1)
	}
	if digits == "" || !strings.HasPrefix(text[end:], `\`) || !utf8.ValidRune(code) {
		return 0, at
	}
	return code, end + 1
}
