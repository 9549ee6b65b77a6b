package parser_test

import (
	"errors"
	"math"
	"strings"
	"testing"

	"hornbeam/api"
	"hornbeam/ops"
	"hornbeam/parser"
)

// P5.1.
func TestSkip(t *testing.T) {
	for text, want := range map[string]map[int]int{
		"":                   {0: 0, 1: 0, -1: 0, math.MaxInt: 0, math.MinInt: 0},
		"a":                  {0: 1, 1: 1, 2: 1},
		".":                  {0: 1, 1: 1, -9: 1, 7: 1},
		"a. b. c":            {0: 2, 1: 2, 2: 5, 4: 5, 5: 7, -3: 2, math.MinInt: 2, 7: 7, math.MaxInt: 7},
		"a.b. c":             {0: 4, 2: 4, 4: 6},
		"a..b.. c":           {0: 6, 3: 6, 5: 6, 6: 8},
		".%":                 {0: 1, 1: 2},
		".\t.\n.\v.\f.\r. .": {0: 1, 1: 3, 3: 5, 5: 7, 7: 9, 9: 11, 11: 13, 13: 13},
		".\x08.\x0e.\x00":    {0: 6},
		".\x1f.!.'.\".(.,.":  {0: 13},
		"'a. b'. c":          {0: 3, 3: 7},
		"/* a. b */ c. ":     {0: 5, 5: 13},
		"% a. b\n c.\n":      {0: 4, 4: 10},
		".é. é.\xff. .\x85":  {0: 4, 4: 10},
		"./*. */.":           {0: 4, 4: 8},
		"+. -.. =..\n":       {0: 2, 2: 6, 6: 10},
		"1.5. 1. ":           {0: 4, 4: 7},
		"0'. \".\". ":        {0: 3, 3: 8},
	} {
		for at, want := range want {
			if got := parser.Skip(text, at); got != want {
				t.Errorf("Skip(%q, %d) tells %d, not %d", text, at, got, want)
			}
		}
	}
}

// P5.1, of all bytes behind a point.
func TestSkipByTheByteBehind(t *testing.T) {
	for b := range 256 {
		text := "a." + string([]byte{byte(b)}) + "z"
		want := len(text)
		if b >= 9 && b <= 13 || b == 32 || b == '%' {
			want = 2
		}
		if got := parser.Skip(text, 0); got != want {
			t.Errorf("Skip(%q, 0) tells %d, not %d", text, got, want)
		}
	}
}

// P5.2, R1: nothing to read from comes ahead of all else.
func TestNoTableOrPlace(t *testing.T) {
	for _, text := range []string{"", "a.", "a", "'a", "/*", "\xff", "a b."} {
		for _, at := range []int{-1, len(text) + 1, math.MinInt, math.MaxInt} {
			checkArg(t, text, at, ops.New())
			checkArg(t, text, at, nil)
		}
		for at := range len(text) + 1 {
			checkArg(t, text, at, nil)
		}
	}
}

func checkArg(t *testing.T, text string, at int, o *ops.Table) {
	t.Helper()
	for _, quotes := range []int{0, api.QAtom, -1} {
		r, err := parser.Read(text, at, o, api.Flags{Quotes: quotes})
		if !errors.Is(err, api.ErrArg) || !(told{read: r}).equal(told{}) {
			t.Errorf("Read(%q, %d): %v, %v", text, at, told{read: r}, err)
		}
	}
}

// P5.2: there is nothing to read but the end.
func TestEnd(t *testing.T) {
	for _, text := range []string{"", " ", "\n\t", "% a", "% a.", "/* a. */", "/**/ % b"} {
		check(t, text, ops.New(), told{read: api.Read{Next: len(text), End: true}})
	}
	for at, want := range map[int]told{
		2: {read: api.Read{Next: 6, End: true}},
		5: {word: "end_of_text", read: api.Read{Next: 6}},
		6: {read: api.Read{Next: 6, End: true}},
	} {
		if got := readAt("a. % x", at, ops.New(), 0); !got.equal(want) {
			t.Errorf("from %d on: %v; want %v", at, got, want)
		}
	}
}

// P5.2: each word that the lexer's errors have, and where it is gone on from.
func TestTokensThatAreWrong(t *testing.T) {
	for text, want := range map[string]struct {
		word string
		next int
	}{
		"é. b.":                           {"illegal_character", 3},
		"a \x01. b.":                      {"illegal_character", 4},
		"% \xff\n. a":                     {"illegal_character", 5},
		"'a. \xff'. b.":                   {"illegal_character", 7},
		"0'\xff. b":                       {"illegal_character", 4},
		"'x":                              {"unclosed_quote", 2},
		"'a. b\n'. c":                     {"unclosed_quote", 3},
		"\"a. b\n\". c":                   {"unclosed_quote", 3},
		"`a. b":                           {"unclosed_quote", 3},
		"x 0'. b":                         {"", 5},
		"0'":                              {"unclosed_quote", 2},
		"'a. \\q b. '. c":                 {"bad_escape", 9},
		"'a. \\":                          {"bad_escape", 5},
		"\"\\xg\\\". b. c":                {"bad_escape", 7},
		"0'\\q. b. c":                     {"bad_escape", 5},
		"/* a. b":                         {"unclosed_comment", 5},
		"a /* a":                          {"unclosed_comment", 6},
		"a. /* a":                         {"", 2},
		"f(1.0e400). b.":                  {"number_too_large", 11},
		strings.Repeat("9", 1300) + ". b": {"number_too_large", 1301},
		strings.Repeat("a", 1001) + ". b": {"name_too_long", 1002},
		strings.Repeat("A", 1001) + ". b": {"name_too_long", 1002},
		"'. " + strings.Repeat("a", 1001) + "'. b": {"name_too_long", 2},
		strings.Repeat("+", 1001) + ". b":          {"name_too_long", 1002},
	} {
		if want.word != "" {
			checkWrong(t, text, ops.New(), want.word, want.next)
		} else if got := read(text, ops.New()); got.word == "unclosed_quote" || got.word == "unclosed_comment" || got.read.Next != want.next {
			t.Errorf("Read(%q): %v", text, got)
		}
	}
}

// P5.2: what is wrong with a token is told ahead of one that cannot stand,
// which stands ahead of it; not so behind the end.
func TestWrongTokensComeFirst(t *testing.T) {
	o := ops.New()
	checkWrong(t, ") 'a. b", o, "unclosed_quote", 5)
	checkWrong(t, "a b. 'c", o, "unexpected_token", 4)
	checkWrong(t, "a b \x01 'c", o, "illegal_character", 8)
	checkWrong(t, "a b 'c\\q \x01", o, "bad_escape", 10)
	checkWrong(t, "a b /* . c", o, "unclosed_comment", 8)
	checkTerm(t, "a.", o, atom("a"))
	check(t, "a. \xff", o, told{read: api.Read{Term: atom("a"), Next: 2}})
	check(t, "a.% /* \xff", o, told{read: api.Read{Term: atom("a"), Next: 2}})
	check(t, "- . 'a", o, told{read: api.Read{Term: atom("-"), Next: 3}})
}

// P5.2: the first token that cannot stand, by its kind.
func TestTokensThatCannotStand(t *testing.T) {
	for text, want := range map[string]struct {
		word string
		next int
	}{
		"a :- b":            {"end_of_text", 6},
		"a":                 {"end_of_text", 1},
		"f(":                {"end_of_text", 2},
		"f(a":               {"end_of_text", 3},
		"[a":                {"end_of_text", 2},
		"a = % b. c":        {"end_of_text", 10},
		"- ":                {"end_of_text", 2},
		".":                 {"end_of_clause", 1},
		". a.":              {"end_of_clause", 1},
		"f(a.":              {"end_of_clause", 4},
		"f(. a). b":         {"end_of_clause", 3},
		"a = . b":           {"end_of_clause", 5},
		"[a|. b":            {"end_of_clause", 4},
		"{. b":              {"end_of_clause", 2},
		"(a. b":             {"end_of_clause", 3},
		"a b.":              {"unexpected_token", 4},
		"a b. c.":           {"unexpected_token", 4},
		"a = = b.":          {"unexpected_token", 8},
		"a :- b ). c.":      {"unexpected_token", 9},
		"f(a :- b).":        {"unexpected_token", 10},
		"X(a). b":           {"unexpected_token", 5},
		"\"f\"(a). b":       {"unexpected_token", 7},
		"1(a). b":           {"unexpected_token", 5},
		"foo (a). b":        {"unexpected_token", 8},
		"f(). b":            {"unexpected_token", 4},
		"f(,). b":           {"unexpected_token", 5},
		"f(a,). b":          {"unexpected_token", 6},
		"f(a|b). b":         {"unexpected_token", 7},
		"f(a;b]). b":        {"unexpected_token", 8},
		"(). b":             {"unexpected_token", 3},
		"(a, ). b":          {"unexpected_token", 6},
		"[,]. b":            {"unexpected_token", 4},
		"[a,]. b":           {"unexpected_token", 5},
		"[|a]. b":           {"unexpected_token", 5},
		"[a|]. b":           {"unexpected_token", 5},
		"[a|b,c]. b":        {"unexpected_token", 8},
		"[a|b|c]. b":        {"unexpected_token", 8},
		"[a). b":            {"unexpected_token", 4},
		"[a :- b]. b":       {"unexpected_token", 9},
		"{a]. b":            {"unexpected_token", 4},
		"{,}. b":            {"unexpected_token", 4},
		"]. b":              {"unexpected_token", 2},
		"}. b":              {"unexpected_token", 2},
		")(. b":             {"unexpected_token", 3},
		"|. b":              {"unexpected_token", 2},
		",. b":              {"unexpected_token", 2},
		"a := b. b":         {"unexpected_token", 7},
		"1--1. b":           {"unexpected_token", 5},
		"a 1. b":            {"unexpected_token", 4},
		"a X. b":            {"unexpected_token", 4},
		"a \"b\". b":        {"unexpected_token", 6},
		"a = b = c. b":      {"unexpected_token", 10},
		"a :- b :- c. b":    {"unexpected_token", 12},
		":- :- a. b":        {"unexpected_token", 8},
		"X = \\+ a. b":      {"unexpected_token", 9},
		"f(a ',' b). c":     {"unexpected_token", 11},
		"f(:- a). b":        {"unexpected_token", 8},
		"[a '|' b]. c":      {"unexpected_token", 10},
		"a = 'x. y' b. c. ": {"unexpected_token", 13},
		"a b 'x. y'. c. ":   {"unexpected_token", 7},
	} {
		checkWrong(t, text, ops.New(), want.word, want.next)
	}
}

// P5.2: what is too large, last of all; and what is just not.
func TestTooLarge(t *testing.T) {
	o := ops.New()
	elements := func(n int) string { return strings.TrimSuffix(strings.Repeat("a,", n), ",") }
	for text, fits := range map[string]bool{
		"[" + elements(1999) + "|a].":                                     true, // 3999 nodes
		"-([" + elements(1999) + "|a]).":                                  true, // 4000
		"- -([" + elements(1999) + "|a]).":                                false,
		"[" + elements(2000) + "].":                                       false,
		"[" + elements(9000) + "].":                                       false,
		"\"" + strings.Repeat("é", 1999) + "\".":                          true,
		"-\"" + strings.Repeat("é", 1999) + "\".":                         true,
		"- -\"" + strings.Repeat("é", 1999) + "\".":                       false,
		"\"" + strings.Repeat("b", 2000) + "\".":                          false,
		"\"" + strings.Repeat("b", 9000) + "\".":                          false,
		"`" + strings.Repeat("b", 1999) + "`.":                            true,
		"`" + strings.Repeat("b", 2000) + "`.":                            false,
		"f(" + elements(64) + ").":                                        true,
		"f(" + elements(65) + ").":                                        false,
		"f(" + elements(9000) + ").":                                      false,
		"a = f(g(" + elements(65) + ")).":                                 false,
		strings.Repeat("- ", 3999) + "a.":                                 true,
		strings.Repeat("- ", 4000) + "a.":                                 false,
		strings.Repeat("a - ", 1999) + "a.":                               true,
		strings.Repeat("a - ", 2000) + "a.":                               false,
		strings.Repeat("a, ", 1999) + "a.":                                true,
		strings.Repeat("a, ", 2000) + "a.":                                false,
		strings.Repeat("(", 9000) + "a" + strings.Repeat(")", 9000) + ".": true,
		strings.Repeat("{", 3999) + "a" + strings.Repeat("}", 3999) + ".": true,
		strings.Repeat("{", 4000) + "a" + strings.Repeat("}", 4000) + ".": false,
		"'" + strings.Repeat("a", 1000) + "'.":                            true,
		strings.Repeat("9", 1200) + ".":                                   true,
	} {
		if fits {
			if got := read(text, o); got.word != "" || got.read.Next != len(text) {
				t.Errorf("Read(%q): %v", short(text), got)
			}
			continue
		}
		checkWrong(t, text, o, "too_large", len(text))
	}
}
