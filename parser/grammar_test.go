package parser_test

import (
	"math"
	"strings"
	"testing"

	"hornbeam/api"
	"hornbeam/ops"
)

// P5.3: the chapter's examples.
func TestExamples(t *testing.T) {
	a, b := atom("a"), atom("b")
	for text, want := range map[string]api.Term{
		"a + b * c.":      f("+", a, f("*", b, atom("c"))),
		"- 1.":            f("-", num("1")),
		"-1.":             num("-1"),
		"-(1).":           f("-", num("1")),
		"- a.":            f("-", a),
		"a - 1.":          f("-", a, num("1")),
		"a -1.":           f("-", a, num("1")),
		"f(:-, -).":       f("f", atom(":-"), atom("-")),
		"[a, b|X].":       f(".", a, f(".", b, v(0))),
		"{a, b}.":         f("{}", f(",", a, b)),
		"- = x.":          f("=", atom("-"), atom("x")),
		"X = f(Y, _, X).": f("=", v(0), f("f", v(1), v(2), v(0))),
		`"ab".`:           f(".", num("97"), f(".", num("98"), atom("[]"))),
	} {
		checkTerm(t, text, ops.New(), want)
	}
	check(t, "X = f(Y, _, X).", ops.New(), told{read: api.Read{
		Term:    f("=", v(0), f("f", v(1), v(2), v(0))),
		Names:   []api.Named{{Name: "X", Var: 0}, {Name: "Y", Var: 1}},
		Singles: []string{"Y"},
		Next:    15,
	}})
}

// P5.3: numbers, and what makes them go below nought.
func TestNumbers(t *testing.T) {
	o := rich(t)
	add(t, o, 0, "fy", "+")
	nine := strings.Repeat("9", 1200)
	for text, want := range map[string]api.Term{
		"007.":           num("7"),
		"0x1F.":          num("31"),
		"0'a.":           num("97"),
		"0'''.":          num("39"),
		nine + ".":       num(nine),
		"-" + nine + ".": num("-" + nine),
		"-0x10.":         num("-16"),
		"-0'a.":          num("-97"),
		"1.5.":           float(1.5),
		"-1.5.":          float(-1.5),
		"-1.0e-320.":     float(-1.0e-320),
		"-0.":            num("0"),
		"-000.":          num("0"),
		"-0.0.":          float(0),
		"-0.0e5.":        float(0),
		"-1.0e-400.":     float(0),
		"- 0.":           f("-", num("0")),
		"- 0.0.":         f("-", float(0)),
		"- /**/1.":       f("-", num("1")),
		"-%\n1.":         f("-", num("1")),
		"'-'1.":          f("-", num("1")),
		"'-' 1.":         f("-", num("1")),
		"'\\x2d\\'1.":    f("-", num("1")),
		"-'1'.":          f("-", atom("1")),
		"- -1.":          f("-", num("-1")),
		"- - 1.":         f("-", f("-", num("1"))),
		"-(-1).":         f("-", num("-1")),
		"-(-(1)).":       f("-", f("-", num("1"))),
		"a - -1.":        f("-", atom("a"), num("-1")),
		"a-1.":           f("-", atom("a"), num("1")),
		"1 -1.":          f("-", num("1"), num("1")),
		"1-1.":           f("-", num("1"), num("1")),
		"-1-1.":          f("-", num("-1"), num("1")),
		"-1 + 2.":        f("+", num("-1"), num("2")),
		"-1^2.":          f("^", num("-1"), num("2")),
		"-a^2.":          f("-", f("^", atom("a"), num("2"))),
		"2^ -1.":         f("^", num("2"), num("-1")),
		"f(-1, -).":      f("f", num("-1"), atom("-")),
		"[-1|-2].":       f(".", num("-1"), num("-2")),
		"1 one -1.":      f("one", num("1"), num("-1")),
		"\\ -1.":         f("\\", num("-1")),
	} {
		checkTerm(t, text, o, want)
	}
	checkWrong(t, "\\-1.", o, "unexpected_token", 4)
	add(t, o, 0, "fy", "-")
	checkTerm(t, "-1.", o, num("-1"))
	checkTerm(t, "\\ -1.", o, f("\\", num("-1")))
	checkTerm(t, "\\ - 1.", o, f("-", atom("\\"), num("1")))
	checkTerm(t, "\\ '-'1.", o, f("-", atom("\\"), num("1")))
	checkWrong(t, "- 1.", o, "unexpected_token", 4)
	checkTerm(t, "+ .", o, atom("+"))
	checkWrong(t, "+1.", o, "unexpected_token", 3)
}

// P5.3: text in double and in back quotes, by each flag.
func TestQuotes(t *testing.T) {
	codes := list(num("97"), num("233"), num("128512"), num("10"))
	chars := list(atom("a"), atom("é"), atom("😀"), atom("\n"))
	for _, quotes := range []int{0, api.QCodes, api.QChars, api.QAtom, 4, -1, math.MaxInt, math.MinInt} {
		want, none := codes, atom("[]")
		switch quotes {
		case api.QChars:
			want = chars
		case api.QAtom:
			want, none = atom("aé😀\n"), atom("")
		}
		for text, want := range map[string]api.Term{
			`"aé😀\n".`:          want,
			"`aé😀\\n`.":         codes,
			`"".`:               none,
			"``.":               atom("[]"),
			`- "".`:             f("-", none),
			`f("aé😀\n", [""]).`: f("f", want, list(none)),
			"'aé😀\\n'.":         atom("aé😀\n"),
			`["a\
é😀\n"|a].`: f(".", want, atom("a")),
		} {
			if got := readAt(text, 0, ops.New(), quotes); got.word != "" || !equal(got.read.Term, want) || got.read.Next != len(text) {
				t.Errorf("Read(%q) by %d tells %v; want %s", text, quotes, got, show(want))
			}
		}
	}
	long := strings.Repeat("b", 1000)
	if got := readAt(`f("`+long+`").`, 0, ops.New(), api.QAtom); !equal(got.read.Term, f("f", atom(long))) {
		t.Errorf("an atom of 1000 bytes: %v", got)
	}
	if got := readAt(`f("`+long+`b"). c`, 0, ops.New(), api.QAtom); !got.equal(told{api.Read{Next: 1007}, "too_large"}) {
		t.Errorf("an atom of 1001 bytes: %v", got)
	}
	if got := readAt(`x. f("é`+long[1:]+`"). c`, 2, ops.New(), api.QAtom); !got.equal(told{api.Read{Next: 1010}, "too_large"}) {
		t.Errorf("an atom of 1001 bytes, less characters: %v", got)
	}
	if got := readAt(`"-" 1.`, 0, ops.New(), api.QAtom); got.word != "unexpected_token" {
		t.Errorf("an atom in double quotes is no operator: %v", got)
	}
	if got := readAt(`1 "-" 1.`, 0, ops.New(), api.QAtom); got.word != "unexpected_token" {
		t.Errorf("an atom in double quotes is no operator: %v", got)
	}
}

// P5.3: brackets, and the names that they make.
func TestBrackets(t *testing.T) {
	a, b, c := atom("a"), atom("b"), atom("c")
	for text, want := range map[string]api.Term{
		"(a).":               a,
		"((a :- b)).":        f(":-", a, b),
		"((a) , (b)).":       f(",", a, b),
		"(a, b, c).":         f(",", a, f(",", b, c)),
		"(a | b).":           f("|", a, b),
		"a | b | c.":         f("|", a, f("|", b, c)),
		"(a :- b | c).":      f(":-", a, f("|", b, c)),
		"[a].":               list(a),
		"[a,b,c].":           list(a, b, c),
		"[a|b].":             f(".", a, b),
		"[a,b|c].":           f(".", a, f(".", b, c)),
		"[a|[b|[]]].":        list(a, b),
		"[(a,b)|(b|c)].":     f(".", f(",", a, b), f("|", b, c)),
		"[(a:-b)].":          list(f(":-", a, b)),
		"[a=b, -].":          list(f("=", a, b), atom("-")),
		"[:-|:-].":           f(".", atom(":-"), atom(":-")),
		"[[]].":              list(atom("[]")),
		"[ ].":               atom("[]"),
		"[/**/].":            atom("[]"),
		"'[]'.":              atom("[]"),
		"[](a).":             f("[]", a),
		"[ ](a).":            f("[]", a),
		"{}.":                atom("{}"),
		"{ %\n}.":            atom("{}"),
		"{}(a, b).":          f("{}", a, b),
		"{a}.":               f("{}", a),
		"{a :- b}.":          f("{}", f(":-", a, b)),
		"{a | b}.":           f("{}", f("|", a, b)),
		"{-}.":               f("{}", atom("-")),
		"{{}}.":              f("{}", atom("{}")),
		"[{[{}]}].":          list(f("{}", list(atom("{}")))),
		"f({}, [], '').":     f("f", atom("{}"), atom("[]"), atom("")),
		"f(a).":              f("f", a),
		"f(a,b,c).":          f("f", a, b, c),
		"f((a,b)).":          f("f", f(",", a, b)),
		"f( a = b , c ).":    f("f", f("=", a, b), c),
		"'f g'(a).":          f("f g", a),
		"''(a).":             f("", a),
		"','(a, b).":         f(",", a, b),
		"'|'(a).":            f("|", a),
		"!(a).":              f("!", a),
		";(a).":              f(";", a),
		"+(a, b).":           f("+", a, b),
		"-(a).":              f("-", a),
		"-(a, b).":           f("-", a, b),
		":-(a, b, c).":       f(":-", a, b, c),
		"- (a, b).":          f("-", f(",", a, b)),
		"-%\n(a, b).":        f("-", f(",", a, b)),
		"a = (b).":           f("=", a, b),
		"a =(b).":            f("=", a, b),
		"\\+ (a, b).":        f("\\+", f(",", a, b)),
		"- =(a, b).":         f("-", f("=", a, b)),
		"- = (a).":           f("=", atom("-"), a),
		"- (-).":             f("-", atom("-")),
		"f(A, [B|A], {B}).":  f("f", v(0), f(".", v(1), v(0)), f("{}", v(1))),
		"f(:- , :- ).":       f("f", atom(":-"), atom(":-")),
		"f((:- a)).":         f("f", f(":-", a)),
		"f(\\+ a).":          f("f", f("\\+", a)),
		"[- a, - , - | - ].": f(".", f("-", a), f(".", atom("-"), f(".", atom("-"), atom("-")))),
	} {
		checkTerm(t, text, ops.New(), want)
	}
	for _, text := range []string{"f(a)(b).", "(f)(b).", "[a](b).", "{a}(b).", "X(b).", "''.'a'."} {
		checkWrong(t, text, ops.New(), "unexpected_token", len(text))
	}
}

// P5.3: what operators make of one another.
func TestOperators(t *testing.T) {
	a, b, c := atom("a"), atom("b"), atom("c")
	for text, want := range map[string]api.Term{
		"a - b - c.":             f("-", f("-", a, b), c),
		"a - (b - c).":           f("-", a, f("-", b, c)),
		"a ^ b ^ c.":             f("^", a, f("^", b, c)),
		"a , b , c.":             f(",", a, f(",", b, c)),
		"a ; b -> c.":            f(";", a, f("->", b, c)),
		"a -> b ; c.":            f(";", f("->", a, b), c),
		"(a , b) , c.":           f(",", f(",", a, b), c),
		"a = b.":                 f("=", a, b),
		"(a = b) = c.":           f("=", f("=", a, b), c),
		"a :- b, c.":             f(":-", a, f(",", b, c)),
		"a --> b, {c}.":          f("-->", a, f(",", b, f("{}", c))),
		":- a, b.":               f(":-", f(",", a, b)),
		"?- a.":                  f("?-", a),
		"\\+ a, b.":              f(",", f("\\+", a), b),
		"\\+ \\+ a.":             f("\\+", f("\\+", a)),
		"\\+a.":                  f("\\+", a),
		"- a * b.":               f("*", f("-", a), b),
		"- a : b.":               f("-", f(":", a, b)),
		"- - a.":                 f("-", f("-", a)),
		"a * - b.":               f("*", a, f("-", b)),
		"a ** -1.":               f("**", a, num("-1")),
		"a ^ - b.":               f("^", a, f("-", b)),
		"- a ^ - b.":             f("-", f("^", a, f("-", b))),
		"a 'is' b.":              f("is", a, b),
		"a '=' b.":               f("=", a, b),
		"a ',' b.":               f(",", a, b),
		"a '|' b.":               f("|", a, b),
		"'\\\\+' a.":             f("\\+", a),
		"':-' a.":                f(":-", a),
		"X is Y mod 2.":          f("is", v(0), f("mod", v(1), num("2"))),
		"X in 1..9.":             f("in", v(0), f("..", num("1"), num("9"))),
		"X #<==> Y #= Z.":        f("#<==>", v(0), f("#=", v(1), v(2))),
		"m:p(X) :- n:q.":         f(":-", f(":", atom("m"), f("p", v(0))), f(":", atom("n"), atom("q"))),
		"- .":                    atom("-"),
		":- .":                   atom(":-"),
		"= .":                    atom("="),
		"* = * .":                f("=", atom("*"), atom("*")),
		"* .":                    atom("*"),
		"= = = .":                f("=", atom("="), atom("=")),
		"- - .":                  f("-", atom("-")),
		":- = a.":                f("=", atom(":-"), a),
		":- :- .":                f(":-", atom(":-")),
		"\\+ ; a.":               f(";", atom("\\+"), a),
		"- , a.":                 f(",", atom("-"), a),
		"- | a.":                 f("|", atom("-"), a),
		"(- ; -).":               f(";", atom("-"), atom("-")),
		"[-, (-), {-}].":         list(atom("-"), atom("-"), f("{}", atom("-"))),
		"- [].":                  f("-", atom("[]")),
		"- {}.":                  f("-", atom("{}")),
		"- [a].":                 f("-", list(a)),
		"- X.":                   f("-", v(0)),
		"- 'x'.":                 f("-", atom("x")),
		"- \"\".":                f("-", atom("[]")),
		"- `a`.":                 f("-", list(num("97"))),
		"- (mod).":               f("-", atom("mod")),
		"- mod(a).":              f("-", f("mod", a)),
		"f(mod, =).":             f("f", atom("mod"), atom("=")),
		"X = \\+ .":              f("=", v(0), atom("\\+")),
		"X = (\\+ a).":           f("=", v(0), f("\\+", a)),
		"X = :- .":               f("=", v(0), atom(":-")),
		"\\+ :- .":               f("\\+", atom(":-")),
		"\\+ :-(a).":             f("\\+", f(":-", a)),
		"\\+ (:- a).":            f("\\+", f(":-", a)),
		"_ = _.":                 f("=", v(0), v(1)),
		"a:b:c.":                 f(":", a, f(":", b, c)),
		"1 = 2.":                 f("=", num("1"), num("2")),
		"\"\" = 'a'.":            f("=", atom("[]"), a),
		"a:-b,c;a->b.":           f(":-", a, f(";", f(",", b, c), f("->", a, b))),
		"a=..b.":                 f("=..", a, b),
		"!, a.":                  f(",", atom("!"), a),
		"a, ! .":                 f(",", a, atom("!")),
		"a;b.":                   f(";", a, b),
		"; = ! .":                f("=", atom(";"), atom("!")),
		"f(;, '|', '[]', '{}').": f("f", atom(";"), atom("|"), atom("[]"), atom("{}")),
	} {
		checkTerm(t, text, ops.New(), want)
	}
	checkWrong(t, "a ** - b.", ops.New(), "unexpected_token", 9)
	checkWrong(t, "- mod.", ops.New(), "end_of_clause", 6)
	checkWrong(t, "a= \\+.", ops.New(), "end_of_text", 6)
	check(t, "a = b.% c", ops.New(), told{read: api.Read{Term: f("=", a, b), Next: 6}})
}
