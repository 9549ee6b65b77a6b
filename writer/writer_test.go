package writer_test

import (
	"math"
	"strings"
	"testing"

	"hornbeam/api"
	"hornbeam/ops"
	"hornbeam/sample"
	"hornbeam/writer"
)

// P6.3: the chapter's examples.
func TestExamples(t *testing.T) {
	o := ops.New()
	a, b, c := atom("a"), atom("b"), atom("c")
	for want, x := range map[string]api.Term{
		"a + b * c":   f("+", a, f("*", b, c)),
		"(a + b) * c": f("*", f("+", a, b), c),
		"a - (b - c)": f("-", a, f("-", b, c)),
		"a - b - c":   f("-", f("-", a, b), c),
		"- 1":         f("-", num("1")),
		"-1":          num("-1"),
		"- -1":        f("-", num("-1")),
		"- a":         f("-", a),
		"- - a":       f("-", f("-", a)),
		"- (-)":       f("-", atom("-")),
		"-1 ^ 2":      f("^", num("-1"), num("2")),
		"- 1 ^ 2":     f("-", f("^", num("1"), num("2"))),
		"f(:-,(a,b))": f("f", atom(":-"), f(",", a, b)),
		"[a|b]":       f(".", a, b),
		"{a,b}":       f("{}", f(",", a, b)),
		"a :- b,c":    f(":-", a, f(",", b, c)),
		"'it\\'s'":    atom("it's"),
		"[]":          atom("[]"),
		"','":         atom(","),
		"'a b'":       atom("a b"),
		"''":          atom(""),
		"'[]'(a)":     f("[]", a),
		"0.1":         float(0.1),
		"'$VAR'(27)":  f("$VAR", num("27")),
	} {
		check(t, x, o, quoted, want)
	}
	check(t, f("$VAR", num("27")), o, letters, "B1")
	check(t, f("+", a, f(".", b, atom("[]"))), o, bare, "+(a,'.'(b,[]))")
}

// P6.3: variables, numbers and atoms, which no option but Quoted changes.
func TestAtomicTerms(t *testing.T) {
	o := ops.New()
	long := "1" + strings.Repeat("0", 1200)
	for _, w := range ways() {
		check(t, v(0), o, w, "_0")
		check(t, v(math.MaxInt), o, w, "_9223372036854775807")
		check(t, num("0"), o, w, "0")
		check(t, num("-"+long), o, w, "-"+long)
		check(t, float(-2.5), o, w, "-2.5")
		check(t, float(1e22), o, w, "1.0e22")
		for _, name := range odd() {
			want := name
			if w.Quoted {
				want = writer.Atom(name)
			}
			check(t, atom(name), o, w, want)
			check(t, f("f", atom(name), atom(name)), o, w, "f("+want+","+want+")")
		}
	}
}

// P6.3: atoms that are operators of any class stand between parentheses as
// operands, and nowhere else.
func TestAtomsAsOperands(t *testing.T) {
	o := ops.New()
	add(t, o, 300, "xf", "pp")
	a := atom("a")
	for _, name := range []string{"-", ":-", "is", "\\", "pp", "|", ","} {
		x, text := atom(name), writer.Atom(name)
		check(t, x, o, quoted, text)
		check(t, f("+", x, x), o, quoted, "("+text+") + ("+text+")")
		check(t, f(",", x, x), o, quoted, "("+text+"),("+text+")")
		check(t, f("-", x), o, quoted, "- ("+text+")")
		check(t, f("pp", x), o, quoted, "("+text+") pp")
		check(t, list(x, x), o, quoted, "["+text+","+text+"]")
		check(t, f(".", x, x), o, quoted, "["+text+"|"+text+"]")
		check(t, f("{}", x), o, quoted, "{"+text+"}")
		check(t, f("f", x), o, quoted, "f("+text+")")
		check(t, f("+", f("f", x), list(x)), o, quoted, "f("+text+") + ["+text+"]")
		check(t, f("+", x, a), o, plain, "("+name+") + a")
		check(t, f("+", x, a), o, bare, "+("+text+",a)")
	}
	for _, name := range []string{"a", "[]", "{}", "!", "a b", "$VAR"} {
		check(t, f("+", atom(name), a), o, quoted, writer.Atom(name)+" + a")
	}
}

// P6.3: lists.
func TestLists(t *testing.T) {
	o := ops.New()
	a, b := atom("a"), atom("b")
	for want, x := range map[string]api.Term{
		"[a]":                    list(a),
		"[a,b,[]]":               list(a, b, atom("[]")),
		"[[]]":                   list(atom("[]")),
		"[[a],[b|a]]":            list(list(a), f(".", b, a)),
		"[a,b|_3]":               f(".", a, f(".", b, v(3))),
		"[a|{}]":                 f(".", a, atom("{}")),
		"[a|'[]'(b)]":            f(".", a, f("[]", b)),
		"[a|'.'(b)]":             f(".", a, f(".", b)),
		"[a|'.'(a,b,b)]":         f(".", a, f(".", a, b, b)),
		"[a|'.']":                f(".", a, atom(".")),
		"[a|-1]":                 f(".", a, num("-1")),
		"[(a,b),(a :- b)|(b,a)]": f(".", f(",", a, b), f(".", f(":-", a, b), f(",", b, a))),
		"[a = b,- a|a = b]":      f(".", f("=", a, b), f(".", f("-", a), f("=", a, b))),
		"'.'(a)":                 f(".", a),
		"'.'(a,b,a)":             f(".", a, b, a),
		"[a] + [b]":              f("+", list(a), list(b)),
		"- [a]":                  f("-", list(a)),
	} {
		check(t, x, o, quoted, want)
	}
	check(t, list(a, f("{}", b)), o, bare, "'.'(a,'.'('{}'(b),[]))")
	check(t, list(a, f("{}", b)), o, api.WriteOptions{IgnoreOps: true}, ".(a,.({}(b),[]))")
	check(t, f(".", a), o, plain, ".(a)")
	add(t, o, 700, "xfx", ".")
	check(t, f("+", list(a), f(".", a, b)), o, quoted, "[a] + [a|b]")
	add(t, o, 700, "fx", ".")
	check(t, f(".", a), o, quoted, "'.' a")
	check(t, f("+", list(a), a), o, quoted, "[a] + a")
}

// P6.3: braces.
func TestBraces(t *testing.T) {
	o := ops.New()
	a, b := atom("a"), atom("b")
	for want, x := range map[string]api.Term{
		"{a}":           f("{}", a),
		"{a :- b,a}":    f("{}", f(":-", a, f(",", b, a))),
		"{{}}":          f("{}", atom("{}")),
		"{{a}} + {b}":   f("+", f("{}", f("{}", a)), f("{}", b)),
		"'{}'(a,b)":     f("{}", a, b),
		"- {-}":         f("-", f("{}", atom("-"))),
		"[{a}|{b}]":     f(".", f("{}", a), f("{}", b)),
		"'[]'(a,b)":     f("[]", a, b),
		"f({a})":        f("f", f("{}", a)),
		"{'[]'([],{})}": f("{}", f("[]", atom("[]"), atom("{}"))),
	} {
		check(t, x, o, quoted, want)
	}
	check(t, f("{}", a), o, bare, "'{}'(a)")
	check(t, f("{}", a, b), o, plain, "{}(a,b)")
	check(t, f("[]", a), o, plain, "[](a)")
	check(t, f("[]", a), o, api.WriteOptions{IgnoreOps: true}, "[](a)")
	check(t, f("f", atom("[]"), atom("{}")), o, bare, "f([],{})")
}

// P6.3: letters.
func TestLetters(t *testing.T) {
	o := ops.New()
	for num1, want := range map[string]string{
		"0": "A", "1": "B", "25": "Z", "26": "A1", "27": "B1", "51": "Z1", "52": "A2", "259": "Z9", "260": "A10", "2600": "A100", "2625": "Z100",
		"26" + strings.Repeat("0", 1000):          "A1" + strings.Repeat("0", 1000),
		"340282366920938463463374607431768211455": "V13087783343113017825514407978144931209",
	} {
		x := f("$VAR", num(num1))
		check(t, x, o, letters, want)
		check(t, x, o, api.WriteOptions{Numbervars: true}, want)
		check(t, x, o, api.WriteOptions{Numbervars: true, IgnoreOps: true}, want)
		check(t, x, o, quoted, "'$VAR'("+num1+")")
		check(t, x, o, plain, "$VAR("+num1+")")
		check(t, f("+", x, f(".", x, x)), o, letters, want+" + ["+want+"|"+want+"]")
	}
	for want, x := range map[string]api.Term{
		"'$VAR'(-1)":       f("$VAR", num("-1")),
		"'$VAR'(1.0)":      f("$VAR", float(1)),
		"'$VAR'(_1)":       f("$VAR", v(1)),
		"'$VAR'(a)":        f("$VAR", atom("a")),
		"'$VAR'(1,2)":      f("$VAR", num("1"), num("2")),
		"'$VAR'(B)":        f("$VAR", f("$VAR", num("1"))),
		"'$VAR'":           atom("$VAR"),
		"'$var'(1)":        f("$var", num("1")),
		"- A":              f("-", f("$VAR", num("0"))),
		"f(A,'$VAR'(- 1))": f("f", f("$VAR", num("0")), f("$VAR", f("-", num("1")))),
	} {
		check(t, x, o, letters, want)
	}
	add(t, o, 500, "fy", "$VAR")
	x := f("$VAR", num("3"))
	check(t, f("+", x, x), o, letters, "D + D")
	check(t, f("+", x, x), o, quoted, "('$VAR' 3) + ('$VAR' 3)")
	check(t, f("$VAR", num("-3")), o, letters, "'$VAR' -3")
}

// P6.3: without operators all compounds are written alike.
func TestWithoutOperators(t *testing.T) {
	o := ops.New()
	a, b := atom("a"), atom("b")
	for want, x := range map[string]api.Term{
		"+(*(a,b),-(a))":  f("+", f("*", a, b), f("-", a)),
		"','(a,','(b,a))": f(",", a, f(",", b, a)),
		":-(-,-)":         f(":-", atom("-"), atom("-")),
		"-(1)":            f("-", num("1")),
		"-(-1)":           f("-", num("-1")),
		"'|'(a,b)":        f("|", a, b),
		"'\\n'('B')":      f("\n", atom("B")),
		"'$VAR'(1)":       f("$VAR", num("1")),
		"f(_0,1.5,[])":    f("f", v(0), float(1.5), atom("[]")),
	} {
		check(t, x, o, bare, want)
	}
}

// P6.3: names without quotes.
func TestUnquotedNames(t *testing.T) {
	o := ops.New()
	add(t, o, 700, "xfx", "B c")
	add(t, o, 700, "fx", "D")
	add(t, o, 300, "xf", "")
	a := atom("a b")
	for want, x := range map[string]api.Term{
		"a b":          a,
		"it's(a b,\n)": f("it's", a, atom("\n")),
		"a b B c a b":  f("B c", a, a),
		"D a b":        f("D", a),
		"a b ":         f("", a),
		"a b | a b":    f("|", a, a),
		"a b,a b":      f(",", a, a),
		"[a b,,,|]":    list(a, atom(","), atom("|")),
		"[a b|a b]":    f(".", a, a),
		"(,) + (D)":    f("+", atom(","), atom("D")),
	} {
		check(t, x, o, plain, want)
	}
	for want, x := range map[string]api.Term{
		"'a b' 'B c' 'a b'": f("B c", a, a),
		"'D' 'a b'":         f("D", a),
		"'a b' ''":          f("", a),
		"'a b' '|' 'a b'":   f("|", a, a),
		"'a b','a b'":       f(",", a, a),
	} {
		check(t, x, o, quoted, want)
	}
}

// P6.3, R1, R7: what is wrong.
func TestWhatIsWrong(t *testing.T) {
	o := ops.New()
	for _, w := range ways() {
		checkWrong(t, "a, without operators", atom("a"), nil, w, api.ErrArg)
		for _, m := range sample.Mistakes() {
			checkWrong(t, "a mistake", m.Term, o, w, m.Errno)
			checkWrong(t, "a mistake within", f("f", atom("a"), f("-", m.Term)), o, w, m.Errno)
			checkWrong(t, "a mistake, without operators", m.Term, nil, w, api.ErrArg)
		}
	}
}

// P6.3: texts of as many bytes as there may be, and of one more.
func TestLongTexts(t *testing.T) {
	o := ops.New()
	name := atom(strings.Repeat("x", 999))
	l := make([]api.Term, 99)
	for i := range l {
		l[i] = name
	}
	full := strings.Repeat(name.Name+",", 98) + name.Name
	nested := func(last int) api.Term {
		return f(".", atom("z"), f("f", list(l...), atom(strings.Repeat("y", last))))
	}
	check(t, nested(991), o, quoted, "[z|f(["+full+"],"+strings.Repeat("y", 991)+")]")
	checkWrong(t, "nested lists", nested(992), o, quoted, api.ErrWriteLong)
	long := func(last int) api.Term {
		return list(append(l, atom(strings.Repeat("y", last)))...)
	}
	check(t, long(998), o, quoted, "["+full+","+strings.Repeat("y", 998)+"]")
	check(t, f("-", long(996)), o, quoted, "- ["+full+","+strings.Repeat("y", 996)+"]")
	for _, w := range ways()[:2] {
		checkWrong(t, "a long list", long(999), o, w, api.ErrWriteLong)
		checkWrong(t, "a long list", f("f", long(998)), o, w, api.ErrWriteLong)
		checkWrong(t, "a long list", f("-", long(997)), o, w, api.ErrWriteLong)
	}
	// A quote within makes a text longer, and so do the ones around it.
	check(t, list(append(l, atom("X"+strings.Repeat("y", 995)))...), o, quoted, "["+full+",'X"+strings.Repeat("y", 995)+"']")
	checkWrong(t, "one more", list(append(l, atom("X"+strings.Repeat("y", 996)))...), o, quoted, api.ErrWriteLong)
	checkWrong(t, "a mark more", list(append(l, atom("'"+strings.Repeat("y", 995)))...), o, quoted, api.ErrWriteLong)
	check(t, list(append(l, atom("X"+strings.Repeat("y", 997)))...), o, plain, "["+full+",X"+strings.Repeat("y", 997)+"]")
	big := atom(strings.Repeat("\x01", 1000))
	all := make([]api.Term, 1999)
	for i := range all {
		all[i] = big
	}
	checkWrong(t, "all in quotes", list(all...), o, quoted, api.ErrWriteLong)
	checkWrong(t, "all as they are", list(all...), o, plain, api.ErrWriteLong)
}

// P6.3: terms of many nodes, however they are nested.
func TestDeepTerms(t *testing.T) {
	o := ops.New()
	const many = 1999
	x := atom("a")
	left, right, before, within, row, curly := x, x, x, x, x, x
	for range many {
		left, right, row = f("-", left, x), f("-", x, right), f(".", row, atom("[]"))
		before, within, curly = f("-", before), f("f", within), f("{}", curly)
	}
	check(t, left, o, quoted, strings.Repeat("a - ", many)+"a")
	check(t, right, o, quoted, strings.Repeat("a - (", many-1)+"a - a"+strings.Repeat(")", many-1))
	check(t, before, o, quoted, strings.Repeat("- ", many)+"a")
	check(t, within, o, quoted, strings.Repeat("f(", many)+"a"+strings.Repeat(")", many))
	check(t, row, o, quoted, strings.Repeat("[", many)+"a"+strings.Repeat("]", many))
	check(t, curly, o, quoted, strings.Repeat("{", many)+"a"+strings.Repeat("}", many))
	check(t, sample.Deep(api.MaxNodes), o, quoted, strings.Repeat("d(", api.MaxNodes-1)+"x"+strings.Repeat(")", api.MaxNodes-1))
	checkWrong(t, "one node more", f("d", sample.Deep(api.MaxNodes)), o, quoted, api.ErrTermNodes)
}
