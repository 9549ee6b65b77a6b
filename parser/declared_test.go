package parser_test

import (
	"strings"
	"testing"

	"hornbeam/api"
	"hornbeam/ops"
)

// P5.3: operators that are added: each type, on its own and among others.
func TestDeclaredOperators(t *testing.T) {
	a, b, c := atom("a"), atom("b"), atom("c")
	o := rich(t)
	for text, want := range map[string]api.Term{
		"a pp.":            f("pp", a),
		"(a pp) pp.":       f("pp", f("pp", a)),
		"a pp = b.":        f("=", f("pp", a), b),
		"not a pp = b.":    f("=", f("not", f("pp", a)), b),
		"not (not a).":     f("not", f("not", a)),
		"- a pp.":          f("-", f("pp", a)),
		"(- a) pp.":        f("pp", f("-", a)),
		"a * b pp.":        f("*", a, f("pp", b)),
		"a qq.":            f("qq", a),
		"a qq qq.":         f("qq", f("qq", a)),
		"a + b qq qq.":     f("qq", f("qq", f("+", a, b))),
		"a = b qq.":        f("qq", f("=", a, b)),
		"a qq , b.":        f(",", f("qq", a), b),
		"f(a qq, pp, qq).": f("f", f("qq", a), atom("pp"), atom("qq")),
		"pp pp.":           f("pp", atom("pp")),
		"pp.":              atom("pp"),
		"pp(a).":           f("pp", a),
		"a 'pp'.":          f("pp", a),
		"[a pp|b pp].":     f(".", f("pp", a), f("pp", b)),
		"not pp.":          f("pp", atom("not")),
		"not pp(a).":       f("not", f("pp", a)),
		"not (pp).":        f("not", atom("pp")),
		"- qq.":            f("qq", atom("-")),
		"not not.":         f("not", atom("not")),
		"not = a.":         f("=", atom("not"), a),
		"dynamic a, b.":    f("dynamic", f(",", a, b)),
		":- dynamic a.":    f(":-", f("dynamic", a)),
		"dynamic = a.":     f("=", atom("dynamic"), a),
		"f(dynamic).":      f("f", atom("dynamic")),
		"both a.":          f("both", a),
		"both both a.":     f("both", f("both", a)),
		"a both.":          f("both", a),
		"both a both.":     f("both", f("both", a)),
		"both (a both).":   f("both", f("both", a)),
		"(both a) both.":   f("both", f("both", a)),
		"both both.":       f("both", atom("both")),
		"a both + b.":      f("+", f("both", a), b),
		"a one b.":         f("one", a, b),
		"(a one b) one c.": f("one", f("one", a, b), c),
		"a one b pp.":      f("pp", f("one", a, b)),
		"a top b top c.":   f("top", f("top", a, b), c),
		"(a :- b) top c.":  f("top", f(":-", a, b), c),
		"a :- b top c.":    f("top", f(":-", a, b), c),
		"a top (b :- c).":  f("top", a, f(":-", b, c)),
		"'' a.":            f("", a),
		"'' '' a.":         f("", f("", a)),
		"a '' b '' c.":     f("", a, f("", b, c)),
		"'' a '' '' b.":    f("", f("", a), f("", b)),
		"''.":              atom(""),
		"\"\" = a.":        f("=", atom("[]"), a),
		"a = \"\".":        f("=", a, atom("[]")),
		"X pp.":            f("pp", v(0)),
		"1 pp.":            f("pp", num("1")),
		"-1 pp.":           f("pp", num("-1")),
		"{a} qq.":          f("qq", f("{}", a)),
		"[] pp.":           f("pp", atom("[]")),
		"{} = [].":         f("=", atom("{}"), atom("[]")),
		"a = [] pp.":       f("=", a, f("pp", atom("[]"))),
		"not dynamic.":     f("not", atom("dynamic")),
		"not dynamic pp.":  f("not", f("pp", atom("dynamic"))),
		"- not.":           f("-", atom("not")),
	} {
		checkTerm(t, text, o, want)
	}
	for text, next := range map[string]int{
		"a pp pp. b":                 8,
		"not a pp pp. b":             12,
		"not not a. b":               10,
		"a qq pp. b":                 8,
		"pp (a). b":                  7,
		"a = b = c qq. d":            13,
		"- both a. b":                9,
		"f(dynamic a). b":            13,
		"a one b one c. d":           14,
		"a pp one b. c":              11,
		"a one b + c one d pp pp. e": 24,
		"a \"\" b. c":                7,
	} {
		checkWrong(t, text, o, "unexpected_token", next)
	}
}

// P5.3: operators that are taken away, and bars.
func TestOperatorsTakenAway(t *testing.T) {
	o := ops.New()
	for _, name := range []string{"|", "-", "=", ":-"} {
		add(t, o, 0, "xfx", name)
	}
	a, b := atom("a"), atom("b")
	checkWrong(t, "(a | b). c", o, "unexpected_token", 8)
	checkWrong(t, "a '|' b. c", o, "unexpected_token", 8)
	checkTerm(t, "[a|b].", o, f(".", a, b))
	checkWrong(t, "a - b. c", o, "unexpected_token", 6)
	checkWrong(t, "a -1. c", o, "unexpected_token", 5)
	checkTerm(t, "- - a.", o, f("-", f("-", a)))
	checkWrong(t, "- = a. c", o, "unexpected_token", 6)
	checkTerm(t, "- = .", o, f("-", atom("=")))
	checkTerm(t, ":- a.", o, f(":-", a))
	checkWrong(t, "b :- a. c", o, "unexpected_token", 7)
	add(t, o, 1001, "xfy", "|")
	checkTerm(t, "(a | b).", o, f("|", a, b))
	checkTerm(t, "(a , b | a).", o, f("|", f(",", a, b), a))
	checkTerm(t, "[a|b].", o, f(".", a, b))
	checkWrong(t, "f(a | b). c", o, "unexpected_token", 9)
	add(t, o, 0, "fy", "-")
	checkWrong(t, "- a. c", o, "unexpected_token", 4)
	checkTerm(t, "-1.", o, num("-1"))
	checkTerm(t, "-(1).", o, f("-", num("1")))
	checkTerm(t, "- .", o, atom("-"))
}

// P5.3: what behind a prefix operator begins a term.
func TestWhatBeginsATerm(t *testing.T) {
	o := rich(t)
	a := atom("a")
	for text, want := range map[string]api.Term{
		"not a.":       f("not", a),
		"not (a).":     f("not", a),
		"not [a].":     f("not", list(a)),
		"not {a}.":     f("not", f("{}", a)),
		"not [].":      f("not", atom("[]")),
		"not X.":       f("not", v(0)),
		"not 1.":       f("not", num("1")),
		"not 1.5.":     f("not", float(1.5)),
		"not \"\".":    f("not", atom("[]")),
		"not ``.":      f("not", atom("[]")),
		"not 'a'.":     f("not", a),
		"not - .":      f("not", atom("-")),
		"not '-'.":     f("not", atom("-")),
		"not mod(a).":  f("not", f("mod", a)),
		"not pp(a).":   f("not", f("pp", a)),
		"not 'pp'(a).": f("not", f("pp", a)),
		"(not).":       atom("not"),
		"[not].":       list(atom("not")),
		"{not}.":       f("{}", atom("not")),
		"[not|not].":   f(".", atom("not"), atom("not")),
		"not, not.":    f(",", atom("not"), atom("not")),
		"not | not.":   f("|", atom("not"), atom("not")),
		"not mod a.":   f("mod", atom("not"), a),
		"not 'mod' a.": f("mod", atom("not"), a),
		"not mod (a).": f("mod", atom("not"), a),
		"not pp.":      f("pp", atom("not")),
		"not pp = a.":  f("=", f("pp", atom("not")), a),
		"not 'pp'.":    f("pp", atom("not")),
	} {
		checkTerm(t, text, o, want)
	}
	add(t, o, 0, "fy", "-")
	checkTerm(t, "not -1.", o, f("not", num("-1")))
	checkTerm(t, "not -1.5.", o, f("not", float(-1.5)))
	checkTerm(t, "not - 1.", o, f("-", atom("not"), num("1")))
	checkTerm(t, "not '-'1.", o, f("-", atom("not"), num("1")))
	checkTerm(t, "not -a.", o, f("-", atom("not"), a))
	checkTerm(t, "not -(1).", o, f("not", f("-", num("1"))))
	checkTerm(t, "not +1.", o, f("not", f("+", num("1"))))
	add(t, o, 0, "yfx", "-")
	checkTerm(t, "not - .", o, f("not", atom("-")))
}

// P5.3: names, variables without a name, and those that stand once.
func TestVariables(t *testing.T) {
	const text = "f(_, B, _a, A, _, B, _a, __, [C|_], {D}, D - E + _1)."
	check(t, text, ops.New(), told{read: api.Read{
		Term:    f("f", v(0), v(1), v(2), v(3), v(4), v(1), v(2), v(5), f(".", v(6), v(7)), f("{}", v(8)), f("+", f("-", v(8), v(9)), v(10))),
		Names:   []api.Named{{Name: "B", Var: 1}, {Name: "_a", Var: 2}, {Name: "A", Var: 3}, {Name: "__", Var: 5}, {Name: "C", Var: 6}, {Name: "D", Var: 8}, {Name: "E", Var: 9}, {Name: "_1", Var: 10}},
		Singles: []string{"A", "__", "C", "E", "_1"},
		Next:    len(text),
	}})
	check(t, "X.", ops.New(), told{read: api.Read{Term: v(0), Names: []api.Named{{Name: "X", Var: 0}}, Singles: []string{"X"}, Next: 2}})
	check(t, "_ .", ops.New(), told{read: api.Read{Term: v(0), Next: 3}})
	check(t, "X = X.", ops.New(), told{read: api.Read{Term: f("=", v(0), v(0)), Names: []api.Named{{Name: "X", Var: 0}}, Next: 6}})
	check(t, "X + X + X.", ops.New(), told{read: api.Read{Term: f("+", f("+", v(0), v(0)), v(0)), Names: []api.Named{{Name: "X", Var: 0}}, Next: 10}})
	check(t, "f(x, 'Y', \"Z\").", ops.New(), told{read: api.Read{Term: f("f", atom("x"), atom("Y"), list(num("90"))), Next: 15}})
	check(t, "X = Y. Z", ops.New(), told{read: api.Read{Term: f("=", v(0), v(1)), Names: []api.Named{{Name: "X", Var: 0}, {Name: "Y", Var: 1}}, Singles: []string{"X", "Y"}, Next: 6}})
	long := strings.Repeat("A", 1000)
	check(t, long+".", ops.New(), told{read: api.Read{Term: v(0), Names: []api.Named{{Name: long, Var: 0}}, Singles: []string{long}, Next: 1001}})
}
