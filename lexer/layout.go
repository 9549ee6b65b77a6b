package lexer

import (
	"strings"
	"unicode/utf8"

	"hornbeam/api"
)

// pastLayout is the first place from at on where no layout stands, or, beside
// an error, the place of what is wrong in it.
func pastLayout(text string, at int) (int, api.Errno) {
	for at < len(text) {
		rest := text[at:]
		length := 0
		switch {
		case isBlank(rune(rest[0])):
			length = 1
		case rest[0] == '%':
			length = lineComment(rest)
		case strings.HasPrefix(rest, "/*"):
			if length = blockComment(rest); length == 0 {
				return at, api.ErrLexComment
			}
		default:
			return at, api.OK
		}
		if sound := soundPart(rest[:length]); sound < length {
			return at + sound, api.ErrLexByte
		}
		at += length
	}
	return at, api.OK
}

// lineComment is the length of the comment with which a text begins.
func lineComment(text string) int {
	if end := strings.IndexByte(text, '\n'); end >= 0 {
		return end + 1
	}
	return len(text)
}

// blockComment is the length of the comment with which a text begins: 0, if it
// is not closed.
func blockComment(text string) int {
	// The star that opens it does not close it.
	_, behind, closed := strings.Cut(text[len("/*"):], "*/")
	if !closed {
		return 0
	}
	return len(text) - len(behind)
}

// soundPart is the length of what stands ahead of a text's first byte that is
// no part of a character.
func soundPart(text string) int {
	for place, char := range text {
		if isBad(char, text[place:]) {
			return place
		}
	}
	return len(text)
}

// isBad tells whether a text begins with a byte that is no part of a character:
// a range over it tells such a byte as a character that may stand there too.
func isBad(char rune, text string) bool {
	return char == utf8.RuneError && !strings.HasPrefix(text, string(utf8.RuneError))
}

// row is the longest row, from a place on, of what a class holds.
func row(text string, at int, class func(rune) bool) string {
	for place, char := range text[at:] {
		if !class(char) {
			return text[at : at+place]
		}
	}
	return text[at:]
}

func isBlank(char rune) bool { return char == ' ' || char >= '\t' && char <= '\r' }

func isDigit(char rune) bool { return char >= '0' && char <= '9' }

func isSmall(char rune) bool { return char >= 'a' && char <= 'z' }

func isLetter(char rune) bool {
	return isSmall(char) || char >= 'A' && char <= 'Z' || char == '_' || isDigit(char)
}

func isSign(char rune) bool { return strings.ContainsRune(`#$&*+-./:<=>?@^~\`, char) }
