package lexer_test

import (
	"fmt"
	"strings"
	"testing"

	"hornbeam/api"
)

// kinds are the quotes, and what stands in them.
func kinds() map[string]int {
	return map[string]int{"'": api.TQuoted, "\"": api.TString, "`": api.TBack}
}

// What stands between quotes means the same in each kind of them.
func TestQuoted(t *testing.T) {
	for quote, kind := range kinds() {
		for between, want := range map[string]string{
			"":                                 "",
			"a b":                              "a b",
			"é日😀\ufffd":                        "é日😀\ufffd",
			"\x00\t\r\x7f":                     "\x00\t\r\x7f",
			quote + quote:                      quote,
			quote + quote + quote + quote:      quote + quote,
			"a" + quote + quote + "b":          "a" + quote + "b",
			`\a\b\f\n\r\t\v`:                   "\x07\x08\x0c\x0a\x0d\x09\x0b",
			"\\\\\\'\\\"\\`":                   "\\'\"`",
			"a\\\nb\\\n":                       "ab",
			`\x0\\0\`:                          "\x00\x00",
			`\x41\\x41\1`:                      "AA1",
			`\101\a\x61\b`:                     "Aaab",
			`\x7f\\177\`:                       "\x7f\x7f",
			`\x80\\200\`:                       "\u0080\u0080",
			`\xe9\\xE9\\351\`:                  "ééé",
			`\xd7ff\\xe000\`:                   "\ud7ff\ue000",
			`\x10FFFF\\4177777\`:               "\U0010ffff\U0010ffff",
			`\xfffd\`:                          "\ufffd",
			`\x0000000000000000000000000041\`:  "A",
			`\000000000000000000000000000101\`: "A",
			`\\x41\\`:                          `\x41\`,
			"% /* a":                           "% /* a",
		} {
			text := " " + quote + between + quote
			checkAll(t, text, row{spaced(word(kind, want, 1, len(text))), eof(len(text))})
		}
	}
	checkNext(t, "'\"`'", 0, word(api.TQuoted, "\"`", 0, 4))
	checkNext(t, "\"''``\"", 0, word(api.TString, "''``", 0, 6))
	checkNext(t, "`'\"`", 0, word(api.TBack, "'\"", 0, 4))
	checkAll(t, "'a''b'\"c\"'d'", row{word(api.TQuoted, "a'b", 0, 6), word(api.TString, "c", 6, 9), word(api.TQuoted, "d", 9, 12), eof(12)})
}

// Numbers that are no character's.
func TestEscapesThatMayNotBe(t *testing.T) {
	for quote := range kinds() {
		for _, number := range split(`xd800 xDFFF 154000 157777 x110000 4200000 x7fffffff x80000041 x100000041 x10000000000000041 40000000101 x- x+1 x_ 1_0 xx41`) {
			for _, prefix := range []string{"", "a", "éé"} {
				text := quote + prefix + `\` + number + `\` + quote
				checkNext(t, text, 0, wrong(api.ErrLexEscape, 1+len(prefix)))
			}
		}
	}
	for number := 0xd7f0; number < 0xe010; number++ {
		checkPlaces(t, fmt.Sprintf(`'\x%x\'`, number))
	}
	checkNext(t, `'\x`+strings.Repeat("0", 1<<20)+`41\'`, 0, word(api.TQuoted, "A", 0, 7+1<<20))
	checkNext(t, `'\x`+strings.Repeat("f", 1<<20)+`\'`, 0, wrong(api.ErrLexEscape, 1))
}

// P3.1: MaxName counts the bytes of what a name comes to, and of names alone.
func TestLongNames(t *testing.T) {
	for first, kind := range map[string]int{"a": api.TName, "A": api.TVar, "_": api.TVar, "+": api.TName} {
		more := "b"
		if first == "+" {
			more = "/"
		}
		name := first + strings.Repeat(more, 999)
		checkAll(t, " "+name, row{spaced(word(kind, name, 1, 1001)), eof(1001)})
		checkAll(t, " "+name+more, row{wrong(api.ErrLexLong, 1)})
	}
	for between, size := range map[string]int{"a": 1, "é": 2, "日": 3, `\n`: 1, `\x10000\`: 4, "''": 1, "a\\\n": 1} {
		most := strings.Repeat(between, 1000/size)
		spare := strings.Repeat("z", 1000%size)
		text := " '" + most + spare + "'"
		want := next(text, 0)
		if want.errno != api.OK || len(want.token.Text) != 1000 || want != expected(text, 0) {
			t.Errorf("%d times %q: %v", 1000/size, between, want)
		}
		checkNext(t, " '"+most+spare+"z'", 0, wrong(api.ErrLexLong, 1))
		checkNext(t, " '"+most+spare+"z", 0, wrong(api.ErrLexQuote, 1))
		checkNext(t, " '"+most+spare+`z\q'`, 0, wrong(api.ErrLexEscape, 3+len(most+spare)))
	}
	long := strings.Repeat("é", 100000)
	checkNext(t, `"`+long+`"`, 0, word(api.TString, long, 0, 2+len(long)))
	checkNext(t, "`"+long+"`", 0, word(api.TBack, long, 0, 2+len(long)))
	checkNext(t, "'"+strings.Repeat("\\\n", 5000)+"a'", 0, word(api.TQuoted, "a", 0, 10003))
}
