package clause_test

import (
	"strings"
	"testing"

	"hornbeam/api"
	"hornbeam/clause"
	"hornbeam/sample"
)

func checkKey(t *testing.T, x api.Term, want string) {
	t.Helper()
	if got := saidKey(clause.Key(x)); got != want {
		t.Errorf("Key of %s: %s; want %s", short(show(x)), got, want)
	}
}

// P11.4.
func TestKey(t *testing.T) {
	for text, want := range map[string]string{
		"a": "a/0", "[]": "[]/0", "!": "!/0", "f(_0)": "f/1", "f(a, 1, 2.5)": "f/3", "[a, b]": "./2", "(p(_0, _1) :- q(_1, _2))": ":-/2", "(a, b)": ",/2", "m : a": ":/2", "- 1": "-/1", "f(g(1, 2))": "f/1", "'a b'(c)": "a b/1",
		"_3": failure(api.ErrArg), "1": failure(api.ErrArg), "-1": failure(api.ErrArg), "2.5": failure(api.ErrArg),
	} {
		checkKey(t, read(text), want)
	}
	checkKey(t, atom(""), "/0")
	checkKey(t, f("", v(0)), "/1")
	checkKey(t, f(strings.Repeat("n", api.MaxName), v(0)), strings.Repeat("n", api.MaxName)+"/1")
	most := f("f")
	for range api.MaxArity {
		most.Args = append(most.Args, v(0))
	}
	checkKey(t, most, "f/64")
	checkKey(t, sample.Deep(api.MaxNodes), "d/1")
}

// P11.4: R7.
func TestKeyOfMistakes(t *testing.T) {
	for _, m := range sample.Mistakes() {
		checkKey(t, m.Term, failure(m.Errno))
		if m.Errno != api.ErrTermNodes {
			checkKey(t, f("f", atom("a"), m.Term), failure(m.Errno))
		}
	}
}
