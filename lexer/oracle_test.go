package lexer_test

import (
	"fmt"
	"math"
	"math/big"
	"regexp"
	"strconv"
	"strings"
	"testing"
	"unicode/utf8"

	"hornbeam/api"
)

// The chapter's words as patterns, each of what stands at a text's beginning.
var (
	blankForm  = regexp.MustCompile(`^[\x09-\x0d\x20]`)
	lineForm   = regexp.MustCompile(`^%[^\n]*\n?`)
	blockForm  = regexp.MustCompile(`^(?s:/\*.*?\*/)`)
	smallForm  = regexp.MustCompile(`^[a-z][a-zA-Z0-9_]*`)
	varForm    = regexp.MustCompile(`^[A-Z_][a-zA-Z0-9_]*`)
	endForm    = regexp.MustCompile(`^\.(?:$|[\x09-\x0d\x20%])`)
	signForm   = regexp.MustCompile(`^[#$&*+\-./:<=>?@^~\\]+`)
	soloForm   = regexp.MustCompile(`^[!;]`)
	punctForm  = regexp.MustCompile(`^[()\[\]{},|]`)
	charForm   = regexp.MustCompile(`^0'(?:''|[^'\n])`)
	radixForm  = regexp.MustCompile(`^0(?:b[01]+|o[0-7]+|x[0-9a-fA-F]+)`)
	floatForm  = regexp.MustCompile(`^[0-9]+\.[0-9]+(?:[eE][+\-]?[0-9]+)?`)
	intForm    = regexp.MustCompile(`^[0-9]+`)
	escapeForm = regexp.MustCompile("^\\\\(?:[abfnrtv\\\\'\"`\n]|x[0-9a-fA-F]+\\\\|[0-7]+\\\\)")
)

// expected is what the patterns make of a text, from a place on.
func expected(text string, at int) told {
	if at < 0 || at > len(text) {
		return wrong(api.ErrLexPlace, 0)
	}
	from := at
	for {
		rest := text[from:]
		layout := blankForm.FindString(rest) + lineForm.FindString(rest) + blockForm.FindString(rest)
		if layout == "" {
			break
		}
		for i := 0; i < len(layout); {
			char, size := utf8.DecodeRuneInString(layout[i:])
			if char == utf8.RuneError && size == 1 {
				return wrong(api.ErrLexByte, from+i)
			}
			i += size
		}
		from += len(layout)
	}
	want := expectedToken(text, from)
	want.token.Layout = want.errno == api.OK && from > at
	return want
}

func expectedToken(text string, at int) told {
	rest := text[at:]
	switch {
	case rest == "":
		return eof(at)
	case strings.HasPrefix(rest, "/*"):
		return wrong(api.ErrLexComment, at)
	case endForm.MatchString(rest):
		return end(at)
	case strings.ContainsAny(rest[:1], "'\"`"):
		return expectedQuoted(text, at)
	case intForm.MatchString(rest):
		return expectedNumber(text, at)
	}
	for _, name := range []*regexp.Regexp{smallForm, signForm, soloForm} {
		if got := name.FindString(rest); got != "" {
			return expectedWord(api.TName, got, at, at+len(got))
		}
	}
	if got := varForm.FindString(rest); got != "" {
		return expectedWord(api.TVar, got, at, at+len(got))
	}
	if got := punctForm.FindString(rest); got != "" {
		return word(api.TPunct, got, at, at+1)
	}
	return wrong(api.ErrLexByte, at)
}

func expectedWord(kind int, text string, at, end int) told {
	if len(text) > 1000 {
		return wrong(api.ErrLexLong, at)
	}
	return word(kind, text, at, end)
}

func expectedQuoted(text string, at int) told {
	quote, out := text[at:at+1], ""
	for from := at + 1; from < len(text); {
		rest := text[from:]
		char, size := utf8.DecodeRuneInString(rest)
		switch {
		case rest[:1] == "\n":
			return wrong(api.ErrLexQuote, at)
		case rest[0] == '\\':
			meant, length := expectedEscape(rest)
			if length == 0 {
				return wrong(api.ErrLexEscape, from)
			}
			out += meant
			from += length
			continue
		case strings.HasPrefix(rest, quote+quote):
			size = 2
		case rest[:1] == quote:
			switch quote {
			case "'":
				return expectedWord(api.TQuoted, out, at, from+1)
			case "\"":
				return word(api.TString, out, at, from+1)
			}
			return word(api.TBack, out, at, from+1)
		case char == utf8.RuneError && size == 1:
			return wrong(api.ErrLexByte, from)
		}
		out += string(char)
		from += size
	}
	return wrong(api.ErrLexQuote, at)
}

// expectedEscape is what an escape means, and how long it is: 0, if it is none.
func expectedEscape(text string) (string, int) {
	got := escapeForm.FindString(text)
	if got == "" {
		return "", 0
	}
	digits, radix := got[1:len(got)-1], 8
	if digits == "" {
		return map[string]string{"a": "\x07", "b": "\x08", "f": "\x0c", "n": "\x0a", "r": "\x0d", "t": "\x09", "v": "\x0b", "\n": "", "\\": "\\", "'": "'", "\"": "\"", "`": "`"}[got[1:]], 2
	}
	if digits[0] == 'x' {
		digits, radix = digits[1:], 16
	}
	code, _ := new(big.Int).SetString(digits, radix)
	if code.Cmp(big.NewInt(0x10ffff)) > 0 || code.Int64() >= 0xd800 && code.Int64() <= 0xdfff {
		return "", 0
	}
	return string(rune(code.Int64())), len(got)
}

func expectedNumber(text string, at int) told {
	rest := text[at:]
	if got := charForm.FindString(rest); got != "" {
		char, size := utf8.DecodeRuneInString(rest[2:])
		if char == '\\' {
			meant, length := expectedEscape(rest[2:])
			if length == 0 || meant == "" {
				return wrong(api.ErrLexEscape, at+2)
			}
			char, _ = utf8.DecodeRuneInString(meant)
			return integer(strconv.Itoa(int(char)), at, at+2+length)
		}
		if char == utf8.RuneError && size == 1 {
			return wrong(api.ErrLexByte, at+2)
		}
		return integer(strconv.Itoa(int(char)), at, at+len(got))
	}
	if got := radixForm.FindString(rest); got != "" {
		n, _ := new(big.Int).SetString(got, 0)
		return expectedInteger(n, at, at+len(got))
	}
	if got := floatForm.FindString(rest); got != "" {
		return expectedFloat(got, at)
	}
	got := intForm.FindString(rest)
	n, _ := new(big.Int).SetString(got, 10)
	return expectedInteger(n, at, at+len(got))
}

func expectedInteger(n *big.Int, at, end int) told {
	if n.BitLen() > 4096 {
		return wrong(api.ErrLexNumber, at)
	}
	return integer(n.String(), at, end)
}

func expectedFloat(text string, at int) told {
	ahead, behind, _ := strings.Cut(strings.ToLower(text), "e")
	behind = strings.TrimLeft(behind, "+-")
	if len(ahead) > 401 || len(behind) > 4 {
		return wrong(api.ErrLexNumber, at)
	}
	exact, _ := new(big.Rat).SetString(text)
	nearest, _ := exact.Float64()
	if math.IsInf(nearest, 0) {
		return wrong(api.ErrLexNumber, at)
	}
	return float(nearest, at, at+len(text))
}

// checkPlaces holds Next against the patterns at each place of a text, and at
// those beside it.
func checkPlaces(t *testing.T, text string) {
	for at := -1; at <= len(text)+1; at++ {
		if got, want := next(text, at), expected(text, at); got != want {
			t.Fatalf("Next(%q, %d) tells %v, not %v", short(text), at, got, want)
		}
	}
}

// Each alphabet has what its matter turns on, and something that is not of it.
func TestAllShortTexts(t *testing.T) {
	for name, c := range map[string]struct {
		parts []string
		most  int
	}{
		"layout":  {[]string{"/", "*", "%", "\n", " ", "a", "\xc3", "\xa9", "."}, 6},
		"signs":   {[]string{".", "+", "\\", "%", "\t", "\x08", "a", "/*", "*/", "(", "é"}, 5},
		"quotes":  {[]string{"'", "\"", "`", "\\", "\n", "a", "é", "\xff"}, 6},
		"escapes": {[]string{"'", "\\", "x", "4", "7", "8", "a", "e", "\n"}, 6},
		"chars":   {[]string{"0", "'", "\\", "n", "\n", "é", "\xe2\x82", "1"}, 6},
		"radices": {[]string{"0", "1", "2", "7", "8", "b", "o", "x", "f", "F", "g", "X"}, 5},
		"floats":  {[]string{"0", "9", ".", "e", "E", "+", "-", "a"}, 6},
		"words":   {[]string{"a", "z", "A", "Z", "_", "0", "9", "!", ";", "|", "\x7f", "\u0100"}, 4},
	} {
		t.Run(name, func(t *testing.T) {
			t.Parallel()
			for text := range texts(c.parts, c.most) {
				checkPlaces(t, text)
			}
		})
	}
}

// Each byte, alone, beside others, in a comment, between quotes, behind a
// backslash and behind 0'.
func TestEachByte(t *testing.T) {
	for _, form := range split("%s a%s %sa .%s %s. 0'%s 0'%s' 0'\\%s '%s' 'a%sa' \"%s\" `%s` '\\%s' '\\%s\\' '\\x%s\\' %%%s /*%s*/b 0%s 0%s1 1.0%s 1.0%s5 /%s") {
		for c := range 256 {
			checkPlaces(t, fmt.Sprintf(form, string([]byte{byte(c)})))
		}
	}
}

// Texts of greater parts, put together by chance.
func TestMixedTexts(t *testing.T) {
	parts := append(split("foo X _ 'it''s' \"s\" `b` 0'a 0''' 0x1F 0b2 1.5 1.5e 1.5e+3 007 0' :- =.. . ( ) [ ] { } , | ! ; /* */ % 'a\\ \\x41\\ \\ ' \" é 日本 \xff \x00 1.e3 2.5E-2"), " ", "\n", "\t", "% x\n", "/* y */", ". ", "'\\\n'")
	d := &dice{7}
	for range 60000 {
		text := ""
		for range d.next(12) {
			text += parts[d.next(len(parts))]
		}
		checkPlaces(t, text)
	}
}
