package lexer_test

import (
	"strings"
	"testing"

	"hornbeam/api"
	"hornbeam/lexer"
)

// The chapter's examples, every field.
func TestExamples(t *testing.T) {
	for text, want := range map[string]row{
		`foo(X, _y) :- \+ a.`: {word(api.TName, "foo", 0, 3), word(api.TPunct, "(", 3, 4), word(api.TVar, "X", 4, 5), word(api.TPunct, ",", 5, 6), spaced(word(api.TVar, "_y", 7, 9)), word(api.TPunct, ")", 9, 10), spaced(word(api.TName, ":-", 11, 13)), spaced(word(api.TName, `\+`, 14, 16)), spaced(word(api.TName, "a", 17, 18)), end(18), eof(19)},
		"a.b":                 {word(api.TName, "a", 0, 1), word(api.TName, ".", 1, 2), word(api.TName, "b", 2, 3), eof(3)},
		"a. b":                {word(api.TName, "a", 0, 1), end(1), spaced(word(api.TName, "b", 3, 4)), eof(4)},
		"X=..Y":               {word(api.TVar, "X", 0, 1), word(api.TName, "=..", 1, 4), word(api.TVar, "Y", 4, 5), eof(5)},
		`'it''s\n'`:           {word(api.TQuoted, "it's\n", 0, 9), eof(9)},
		`"a\x41\b"`:           {word(api.TString, "aAb", 0, 9), eof(9)},
		`'a\q'`:               {wrong(api.ErrLexEscape, 2)},
		`'a`:                  {wrong(api.ErrLexQuote, 0)},
		"0'a":                 {integer("97", 0, 3), eof(3)},
		"0'''":                {integer("39", 0, 4), eof(4)},
		`0'\n`:                {integer("10", 0, 4), eof(4)},
		"0'":                  {integer("0", 0, 1), wrong(api.ErrLexQuote, 1)},
		"0xfF":                {integer("255", 0, 4), eof(4)},
		"0b2":                 {integer("0", 0, 1), word(api.TName, "b2", 1, 3), eof(3)},
		"007":                 {integer("7", 0, 3), eof(3)},
		"1.5e3":               {float(1500, 0, 5), eof(5)},
		"1.e3":                {integer("1", 0, 1), word(api.TName, ".", 1, 2), word(api.TName, "e3", 2, 4), eof(4)},
		"1e3":                 {integer("1", 0, 1), word(api.TName, "e3", 1, 3), eof(3)},
		"2.50":                {float(2.5, 0, 4), eof(4)},
		"1.0e400":             {wrong(api.ErrLexNumber, 0)},
		"/* x":                {wrong(api.ErrLexComment, 0)},
		"% x":                 {spaced(eof(3))},
		"":                    {eof(0)},
		"a /**/b":             {word(api.TName, "a", 0, 1), spaced(word(api.TName, "b", 6, 7)), eof(7)},
	} {
		checkAll(t, text, want)
	}
}

// P3.1: places of the text, and no others.
func TestPlaces(t *testing.T) {
	const least, most = -1 << 63, 1<<63 - 1
	for _, at := range []int{least, -2, -1, 5, 6, most} {
		checkNext(t, "ab c", at, wrong(api.ErrLexPlace, 0))
	}
	checkNext(t, "", 1, wrong(api.ErrLexPlace, 0))
	checkNext(t, "", 0, eof(0))
	checkNext(t, "ab c", 0, word(api.TName, "ab", 0, 2))
	checkNext(t, "ab c", 1, word(api.TName, "b", 1, 2))
	checkNext(t, "ab c", 2, spaced(word(api.TName, "c", 3, 4)))
	checkNext(t, "ab c", 3, word(api.TName, "c", 3, 4))
	checkNext(t, "ab c", 4, eof(4))
	checkNext(t, "ab ", 2, spaced(eof(3)))
	checkNext(t, "ab ", 3, eof(3))
	// Nothing ahead of the place counts: no comment, no quote, no character.
	checkNext(t, "/* a */", 3, word(api.TName, "a", 3, 4))
	checkNext(t, "% a", 2, word(api.TName, "a", 2, 3))
	checkNext(t, "'a' ", 1, word(api.TName, "a", 1, 2))
	checkNext(t, "'é'", 2, wrong(api.ErrLexByte, 2))
	checkNext(t, "007", 1, integer("7", 1, 3))
}

// P3.1: what is wrong is told where it stands, and the first thing that is.
func TestWhatIsWrong(t *testing.T) {
	for text, want := range map[string]told{
		" é":               wrong(api.ErrLexByte, 1),
		"\x00":             wrong(api.ErrLexByte, 0),
		"\x7f":             wrong(api.ErrLexByte, 0),
		"\ufffd":           wrong(api.ErrLexByte, 0),
		"% \xff":           wrong(api.ErrLexByte, 2),
		"% é\xc3":          wrong(api.ErrLexByte, 4),
		"%\xe2\x82\na":     wrong(api.ErrLexByte, 1),
		"%\n%é\n\xff":      wrong(api.ErrLexByte, 6),
		"/* \xff */":       wrong(api.ErrLexByte, 3),
		"/* é\xed\xa0\x80": wrong(api.ErrLexComment, 0),
		"/* \xff":          wrong(api.ErrLexComment, 0),
		"/*/":              wrong(api.ErrLexComment, 0),
		" /* */ /* \xff *": wrong(api.ErrLexComment, 7),
		"% \xff\n/*":       wrong(api.ErrLexByte, 2),
		"/* %*/ /*":        wrong(api.ErrLexComment, 7),
		"%/*\n/*":          wrong(api.ErrLexComment, 4),
		"'\xff":            wrong(api.ErrLexByte, 1),
		"'\n\xff'":         wrong(api.ErrLexQuote, 0),
		"'\xff\n'":         wrong(api.ErrLexByte, 1),
		"'a\xf0\x9f\x98'":  wrong(api.ErrLexByte, 2),
		`'\`:               wrong(api.ErrLexEscape, 1),
		"'\\\xff'":         wrong(api.ErrLexEscape, 1),
		"'\\x4\xff'":       wrong(api.ErrLexEscape, 1),
		"'\\\r\n'":         wrong(api.ErrLexEscape, 1),
		`'a\x'`:            wrong(api.ErrLexEscape, 2),
		`'a\x\'`:           wrong(api.ErrLexEscape, 2),
		`'\x4g\'`:          wrong(api.ErrLexEscape, 1),
		`'\41'`:            wrong(api.ErrLexEscape, 1),
		`'\48\'`:           wrong(api.ErrLexEscape, 1),
		`'\8\'`:            wrong(api.ErrLexEscape, 1),
		`'\X41\'`:          wrong(api.ErrLexEscape, 1),
		`'\s'`:             wrong(api.ErrLexEscape, 1),
		`'\0'`:             wrong(api.ErrLexEscape, 1),
		`'\é'`:             wrong(api.ErrLexEscape, 1),
		`  "abc`:           wrong(api.ErrLexQuote, 2),
		"  \"abc\n\"":      wrong(api.ErrLexQuote, 2),
		"'''":              wrong(api.ErrLexQuote, 0),
		`'a"`:              wrong(api.ErrLexQuote, 0),
		`'\'`:              wrong(api.ErrLexQuote, 0),
		`'\x41\''`:         wrong(api.ErrLexQuote, 0),
		"'/*'":             word(api.TQuoted, "/*", 0, 4),
		"'% a'":            word(api.TQuoted, "% a", 0, 5),
		"/**/é":            wrong(api.ErrLexByte, 4),
		"%é\n/*日本*/a":      spaced(word(api.TName, "a", 14, 15)),
		"/* /* */a":        spaced(word(api.TName, "a", 8, 9)),
		"/***/a":           spaced(word(api.TName, "a", 5, 6)),
		"% /* \na":         spaced(word(api.TName, "a", 6, 7)),
		"% a\r/* b":        spaced(eof(8)),
	} {
		checkNext(t, text, 0, want)
	}
}

// Rows go as far as they can; a point is an end only alone and ahead of layout.
func TestRows(t *testing.T) {
	for text, want := range map[string]row{
		"aB_9Zé":             {word(api.TName, "aB_9Z", 0, 5), wrong(api.ErrLexByte, 5)},
		"_ __ _1 A":          {word(api.TVar, "_", 0, 1), spaced(word(api.TVar, "__", 2, 4)), spaced(word(api.TVar, "_1", 5, 7)), spaced(word(api.TVar, "A", 8, 9)), eof(9)},
		`#$&*+-./:<=>?@^~\a`: {word(api.TName, `#$&*+-./:<=>?@^~\`, 0, 17), word(api.TName, "a", 17, 18), eof(18)},
		"/*":                 {wrong(api.ErrLexComment, 0)},
		"+/*":                {word(api.TName, "+/*", 0, 3), eof(3)},
		"//*":                {word(api.TName, "//*", 0, 3), eof(3)},
		"./* */":             {word(api.TName, "./*", 0, 3), spaced(word(api.TName, "*/", 4, 6)), eof(6)},
		".%":                 {end(0), spaced(eof(2))},
		".\v.\f.\r.\n.\t":    {end(0), spaced(end(2)), spaced(end(4)), spaced(end(6)), spaced(end(8)), spaced(eof(10))},
		".. .":               {word(api.TName, "..", 0, 2), spaced(end(3)), eof(4)},
		".(":                 {word(api.TName, ".", 0, 1), word(api.TPunct, "(", 1, 2), eof(2)},
		".'a'":               {word(api.TName, ".", 0, 1), word(api.TQuoted, "a", 1, 4), eof(4)},
		".\x00":              {word(api.TName, ".", 0, 1), wrong(api.ErrLexByte, 1)},
		"!!;;":               {word(api.TName, "!", 0, 1), word(api.TName, "!", 1, 2), word(api.TName, ";", 2, 3), word(api.TName, ";", 3, 4), eof(4)},
		"()[]{},||":          {word(api.TPunct, "(", 0, 1), word(api.TPunct, ")", 1, 2), word(api.TPunct, "[", 2, 3), word(api.TPunct, "]", 3, 4), word(api.TPunct, "{", 4, 5), word(api.TPunct, "}", 5, 6), word(api.TPunct, ",", 6, 7), word(api.TPunct, "|", 7, 8), word(api.TPunct, "|", 8, 9), eof(9)},
		"a%b\n \t/**/%\nc":   {word(api.TName, "a", 0, 1), spaced(word(api.TName, "c", 12, 13)), eof(13)},
		"a%%":                {word(api.TName, "a", 0, 1), spaced(eof(3))},
	} {
		checkAll(t, text, want)
	}
}

// P3.2: a range may be left early, and ranged over again; a mistake ends it.
func TestAllIsRangedOver(t *testing.T) {
	const text = "a b c"
	tokens := lexer.All(text)
	for most := range 6 {
		seen := 0
		for token, errno := range tokens {
			if want := next(text, max(0, seen*2-1)); want != (told{token, errno}) {
				t.Errorf("token %d of a range that is left behind %d: %v", seen, most, told{token, errno})
			}
			if seen++; seen >= most {
				break
			}
		}
		if want := min(max(most, 1), 4); seen != want {
			t.Errorf("a range that is left behind %d went through %d", most, seen)
		}
	}
	checkAll(t, "a /* b", row{word(api.TName, "a", 0, 1), wrong(api.ErrLexComment, 2)})
	checkAll(t, "é a", row{wrong(api.ErrLexByte, 0)})
	checkAll(t, "a 'b", row{word(api.TName, "a", 0, 1), wrong(api.ErrLexQuote, 2)})
	checkAll(t, "% \xff\na b", row{wrong(api.ErrLexByte, 2)})
	checkAll(t, "a. /**/ ", row{word(api.TName, "a", 0, 1), end(1), spaced(eof(8))})
}

// P3.2, P3.4: All tells what Next tells from each token's end on; tokens do not
// overlap, and between them stands layout alone.
func TestTokensOfMixedTexts(t *testing.T) {
	parts := append(split("foo X 'a' \"b\" `c` 0'a 0x1F 1.5e3 12 :- . ( ) ! , /* */ % é"), " ", "\n", ". ", "/* */", "0'", "'")
	d := &dice{11}
	for range 20000 {
		text := ""
		for range d.next(16) {
			text += parts[d.next(len(parts))]
		}
		checkTokens(t, text)
	}
}

func checkTokens(t *testing.T, text string) {
	t.Helper()
	tokens := all(text)
	at := 0
	for i, got := range tokens {
		if want := next(text, at); got != want {
			t.Fatalf("All(%q) tells as token %d %v, but Next %v", text, i, got, want)
		}
		last := got.errno != api.OK || got.token.Kind == api.TEof
		if last != (i == len(tokens)-1) {
			t.Fatalf("All(%q) has %d tokens, of which this is number %d: %v", text, len(tokens), i, got)
		}
		if got.errno != api.OK {
			return
		}
		between := next(text[:got.token.At], at).token
		if got.token.At < at || between.Kind != api.TEof || between.Layout != got.token.Layout {
			t.Fatalf("All(%q): ahead of token %d, %v, stands %q", text, i, got, text[at:got.token.At])
		}
		if text := text[got.token.At:got.token.End]; (text == "") != last {
			t.Fatalf("a token that is %q: %v", text, got)
		}
		at = got.token.End
	}
	if at != len(text) {
		t.Fatalf("All(%q) ends at %d", text, at)
	}
}

// P3.3.
func TestPlain(t *testing.T) {
	plain := split("a foo a1_B z9 aZ ! ; . :- =.. \\+ + - * / // //* +/* .. .a")
	for i, name := range append(plain, "[]", "{}", "", "X", "_", "_a", "a b", ",", "|", "(", "1", "a.", "a.b", ".a", "a(", "%", "a%", " a", "a ", "/*", "/**/", "/**/a", "%\na", "é", "aé", "'a'", "\"a\"", "`a`", "\xff", "a\xff", "!!", ";;", "a-", "-a", ".", ". ", "\x00", "\n", "/* a") {
		want := i < len(plain) && name != "." && name != ".a"
		if lexer.Plain(name) != want {
			t.Errorf("Plain(%q) is %v", name, !want)
		}
	}
	if !lexer.Plain("a"+strings.Repeat("b", 999)) || lexer.Plain("a"+strings.Repeat("b", 1000)) {
		t.Errorf("a name of 1000 bytes is plain, one of 1001 bytes is none")
	}
	for name := range texts([]string{"a", "B", "0", "_", ".", "/", "*", "%", " ", "!", ";", "[", "]", "'", "é"}, 4) {
		want := expected(name, 0)
		if lexer.Plain(name) != (want.token.Kind == api.TName && want.token.Text == name) {
			t.Fatalf("Plain(%q) is %v", name, lexer.Plain(name))
		}
	}
}

// R5: the same is told again, whatever was asked between.
func TestAskedAgainTheSameIsTold(t *testing.T) {
	list := split("'it''s' 0'a a(X) 1.5e3 0xff 'a :- % /* .")
	var first []row
	for _, text := range list {
		first = append(first, all(text))
	}
	for i := len(list) - 1; i >= 0; i-- {
		checkAll(t, list[i], first[i])
	}
}

// R1: long texts of each kind come to their end; no token makes those behind it
// be gone through again.
func TestLongTexts(t *testing.T) {
	const many = 400000
	for _, part := range append(split("a a(b) . .. 1 0 0' 0'a 0'\\n 0x 0x1 1.5 1.e 1.5e+ ' '' ''' 'a' \" \"b\" \\ \\x /* */ /**/ // % (( | _ é \xff"), " ", "\n", ". ", "% x\n", "/* */ ", "'\\\n' ", "'a\\x41\\' ") {
		text := strings.Repeat(part, many)
		tokens := 0
		for range lexer.All(text) {
			tokens++
		}
		if tokens == 0 || tokens > len(text)+1 {
			t.Errorf("%q, %d times over: %d tokens", part, many, tokens)
		}
	}
}
