package writer_test

import (
	"fmt"
	"regexp"
	"strings"
	"testing"

	"hornbeam/lexer"
	"hornbeam/writer"
)

func checkAtom(t *testing.T, name, want string) {
	t.Helper()
	if got := writer.Atom(name); got != want {
		t.Errorf("Atom(%q) tells %q; want %q", short(name), short(got), short(want))
	}
}

// P6.1: names that need no quotes, and names that need some.
func TestAtoms(t *testing.T) {
	for _, name := range []string{"a", "foo", "fooBar_1", "z9", "+", "-->", "\\+", "=..", "\\", "..", ".=", "//*", "*/", "#", "!", ";", "[]", "{}", strings.Repeat("n", 1000)} {
		checkAtom(t, name, name)
	}
	for name, want := range map[string]string{
		"":                                   "''",
		"a b":                                "'a b'",
		"X":                                  "'X'",
		"_":                                  "'_'",
		"1":                                  "'1'",
		",":                                  "','",
		"|":                                  "'|'",
		"(":                                  "'('",
		"[":                                  "'['",
		"[ ]":                                "'[ ]'",
		"[]a":                                "'[]a'",
		"a[]":                                "'a[]'",
		"{} ":                                "'{} '",
		"!!":                                 "'!!'",
		";;":                                 "';;'",
		"a!":                                 "'a!'",
		"a.":                                 "'a.'",
		".":                                  "'.'",
		".%":                                 "'.%'",
		"%":                                  "'%'",
		"/*":                                 "'/*'",
		"/* a */":                            "'/* a */'",
		"/**/a":                              "'/**/a'",
		" a":                                 "' a'",
		"a\n":                                "'a\\n'",
		"it's":                               "'it\\'s'",
		"'":                                  "'\\''",
		"''":                                 "'\\'\\''",
		"a\\":                                "'a\\\\'",
		"\\n":                                "'\\\\n'",
		"\"`":                                "'\"`'",
		"\n\x01\u00e9":                       "'\\n\\x1\\\u00e9'",
		"\x00":                               "'\\x0\\'",
		"\t\r\v\f\a\b":                       "'\\x9\\\\xd\\\\xb\\\\xc\\\\x7\\\\x8\\'",
		"\x1f\x20\x7f":                       "'\\x1f\\ \\x7f\\'",
		"\x10\x0f":                           "'\\x10\\\\xf\\'",
		"\u0080\u00a0\u4e2d\U0001f600\ufffd": "'\u0080\u00a0\u4e2d\U0001f600\ufffd'",
		"\xff":                               "'\xff'",
		"\xe4\xb8":                           "'\xe4\xb8'",
		"a\xffb\n\xc3'\xa9":                  "'a\xffb\\n\xc3\\'\xa9'",
		"\xed\xa0\x80":                       "'\xed\xa0\x80'",
		strings.Repeat("n", 1001):            "'" + strings.Repeat("n", 1001) + "'",
		strings.Repeat("\x01", 70000):        "'" + strings.Repeat(`\x1\`, 70000) + "'",
	} {
		checkAtom(t, name, want)
	}
}

var plainForm = regexp.MustCompile(`^(?:[a-z][a-zA-Z0-9_]*|[#$&*+\-./:<=>?@^~\\]+|[!;]|\[\]|\{\})$`)

// isPlain is what P6.1 and P3.3 come to for a short name.
func isPlain(name string) bool {
	return plainForm.MatchString(name) && name != "." && !strings.HasPrefix(name, "/*")
}

// expectedAtom is what P6.1 says, byte by byte: a byte from 128 on stands for
// itself, whatever character it is part of.
func expectedAtom(name string) string {
	if isPlain(name) {
		return name
	}
	out := "'"
	for i := range len(name) {
		switch b := name[i]; {
		case b == '\'' || b == '\\':
			out += "\\" + string(rune(b))
		case b == 10:
			out += "\\n"
		case b < 32 || b == 127:
			out += fmt.Sprintf("\\x%x\\", b)
		default:
			out += name[i : i+1]
		}
	}
	return out + "'"
}

// P6.1: all short names of some bytes; and those without broken characters are
// tokens that stand for the name.
func TestShortNames(t *testing.T) {
	bytes := []string{"a", "Z", "_", "7", " ", "'", "\\", "\n", "\x00", "\x1e", "\x7f", "\x80", "\u00e9", ".", "/", "*", "%", "[", "]", "{", "}", "!", ";", ",", "-"}
	var goThrough func(name string, more int)
	goThrough = func(name string, more int) {
		want := expectedAtom(name)
		checkAtom(t, name, want)
		if k, e := lexer.Next(want, 0); e == 0 && (k.Text != name || k.End != len(want)) && name != "[]" && name != "{}" {
			t.Errorf("%q is read as %q", want, k.Text)
		}
		for _, part := range bytes {
			if more > 0 {
				goThrough(name+part, more-1)
			}
		}
	}
	goThrough("", 3)
	for b := range 256 {
		checkAtom(t, string([]byte{byte(b)}), expectedAtom(string([]byte{byte(b)})))
	}
}
