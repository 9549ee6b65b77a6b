package dcg_test

import (
	"math"
	"testing"

	"hornbeam/api"
	"hornbeam/sample"
	"hornbeam/tree"
)

// P10.1: each row, between the variables 0 and 1, new ones from 9 on.
func TestBody(t *testing.T) {
	for _, row := range []struct {
		body, goal string
		next       int
	}{
		{"_5", "phrase(_5, _0, _1)", 9},
		{"_0", "phrase(_0, _0, _1)", 9},
		{"_9", "phrase(_9, _0, _1)", 9},
		{"a, b", "a(_0, _9), b(_9, _1)", 10},
		{"a, b, c", "a(_0, _9), b(_9, _10), c(_10, _1)", 11},
		{"(a, b), c", "(a(_0, _10), b(_10, _9)), c(_9, _1)", 11},
		{"a, _5", "a(_0, _9), phrase(_5, _9, _1)", 10},
		{"a ; b", "a(_0, _1) ; b(_0, _1)", 9},
		{"a | b", "a(_0, _1) ; b(_0, _1)", 9},
		{"a | b ; c", "a(_0, _1) ; (b(_0, _1) ; c(_0, _1))", 9},
		{"a, b ; c, d", "a(_0, _9), b(_9, _1) ; c(_0, _10), d(_10, _1)", 11},
		{"a -> b", "a(_0, _9) -> b(_9, _1)", 10},
		{"a -> b ; c", "(a(_0, _9) -> b(_9, _1)) ; c(_0, _1)", 10},
		{"a, b -> c, d", "a(_0, _10), b(_10, _9) -> c(_9, _11), d(_11, _1)", 12},
		{`\+ a`, `\+ a(_0, _9), _0 = _1`, 10},
		{`\+ (a, b)`, `\+ (a(_0, _10), b(_10, _9)), _0 = _1`, 11},
		{`\+ \+ a`, `\+ (\+ a(_0, _10), _0 = _9), _0 = _1`, 11},
		{`\+ a, b`, `(\+ a(_0, _10), _0 = _9), b(_9, _1)`, 11},
		{`\+ _5`, `\+ phrase(_5, _0, _9), _0 = _1`, 10},
		{"{}", "true, _0 = _1", 9},
		{"{a}", "a, _0 = _1", 9},
		{"{a, b}", "(a, b), _0 = _1", 9},
		{"{_5}", "_5, _0 = _1", 9},
		{"{3}", "3, _0 = _1", 9},
		{"{[a|b]}", "[a|b], _0 = _1", 9},
		{"{!}, !", "(!, _0 = _9), (!, _9 = _1)", 10},
		{"!", "!, _0 = _1", 9},
		{"[]", "_0 = _1", 9},
		{"[a]", "_0 = [a|_1]", 9},
		{"[a, 1, 2.5, _5, f(_6), [b], [c|d], !]", "_0 = [a, 1, 2.5, _5, f(_6), [b], [c|d], !|_1]", 9},
		{"[[]]", "_0 = [[]|_1]", 9},
		{`"ab"`, "_0 = [97, 98|_1]", 9},
		{"[a], [b]", "_0 = [a|_9], _9 = [b|_1]", 10},
		{"call(a)", "call(a, _0, _1)", 9},
		{"call(_5, 1)", "call(_5, 1, _0, _1)", 9},
		{"call((a, [x|y]), 3)", "call((a, [x|y]), 3, _0, _1)", 9},
		{"call", "call(_0, _1)", 9},
		{"a", "a(_0, _1)", 9},
		{"f(a, _5)", "f(a, _5, _0, _1)", 9},
		{"f((a, b), [x|y], 3)", "f((a, b), [x|y], 3, _0, _1)", 9},
	} {
		checkBody(t, read(row.body), v(0), v(1), 9, withNext(show(read(row.goal)), row.next))
	}
}

// P10.1: what is like a row of the table, but with other arguments, is a
// nonterminal.
func TestNonterminals(t *testing.T) {
	for _, body := range []string{
		"','", "','(a)", "','(a, b, c)", "';'", "';'(a)", "';'(a, b, c)", "'|'", "'|'(a)", "'|'(a, b, c)", "'->'", "'->'(a)", "'->'(a, b, c)",
		`\+`, `\+(a, b)`, "{}(a, b)", "!(a)", "!(a, b)", "[](a)", "[](a, b)", "'.'", "'.'(a)", "'.'(a, b, c)", "'.'(a, b, [])",
		"''", "true", "fail", "phrase", "phrase(a)", "phrase(a, b)", "'call '(a)", "(a --> b)", "(a :- b)", "(:- a)", "(m : a)", "a = b", `a \= b`, "{a} + {b}", "- 1",
	} {
		x := read(body)
		checkBody(t, x, v(0), v(1), 9, withNext(show(f(x.Name, append(x.Args, v(0), v(1))...)), 9))
	}
}

// P10.1: the lists may be any terms.
func TestBodyBetweenAnyTerms(t *testing.T) {
	for _, row := range []struct{ body, from, to, goal string }{
		{"a", "[x, y]", "[]", "a([x, y], [])"},
		{"a, b", "f(_3)", "2.5", "a(f(_3), _9), b(_9, 2.5)"},
		{"a | b, c", "x", "[y|_9]", "a(x, [y|_9]) ; b(x, _9), c(_9, [y|_9])"},
		{"[]", "[x|_2]", "[x|_2]", "[x|_2] = [x|_2]"},
		{"[a]", "[x]", "[y]", "[x] = [a, y]"},
		{"[a]", "3", "f(x)", "3 = [a|f(x)]"},
		{"{}", "_7", "_7", "true, _7 = _7"},
		{`\+ a`, "[x]", "_8", `\+ a([x], _9), [x] = _8`},
		{"_5", "_5", "_5", "phrase(_5, _5, _5)"},
	} {
		_, next := modelBody(read(row.body), read(row.from), read(row.to), 9)
		checkBody(t, read(row.body), read(row.from), read(row.to), 9, withNext(show(read(row.goal)), next))
	}
}

// P10.1: what cannot be a body.
func TestNoBody(t *testing.T) {
	for body, want := range map[string]string{
		"3":                       wrongType("callable", read("3")),
		"-3":                      wrongType("callable", read("-3")),
		"2.5":                     wrongType("callable", read("2.5")),
		"[x|y]":                   wrongType("list", read("[x|y]")),
		"[x|_5]":                  wrongType("list", read("[x|_5]")),
		"[_5|_5]":                 wrongType("list", read("[_5|_5]")),
		"[x, y|3]":                wrongType("list", read("[x, y|3]")),
		"[x|f([])]":               wrongType("list", read("[x|f([])]")),
		"[x|'[]'(a)]":             wrongType("list", read("[x|'[]'(a)]")),
		"[x|'.'(y)]":              wrongType("list", read("[x|'.'(y)]")),
		"[x|'.'(y, z, [])]":       wrongType("list", read("[x|'.'(y, z, [])]")),
		"[x|',']":                 wrongType("list", read("[x|',']")),
		"a, 3":                    wrongType("callable", read("3")),
		"3, a":                    wrongType("callable", read("3")),
		"a ; 3":                   wrongType("callable", read("3")),
		"a | 3":                   wrongType("callable", read("3")),
		"a -> 3":                  wrongType("callable", read("3")),
		`\+ 3`:                    wrongType("callable", read("3")),
		`\+ (a, (b ; c | [x|y]))`: wrongType("list", read("[x|y]")),
		"3, 4":                    wrongType("callable", read("3")),
		"3 ; 4":                   wrongType("callable", read("3")),
		"3 | 4":                   wrongType("callable", read("3")),
		"3 -> 4":                  wrongType("callable", read("3")),
		"[x|y], 3":                wrongType("list", read("[x|y]")),
		"(a, 3), [x|y]":           wrongType("callable", read("3")),
		"(a -> [x|y] ; 3)":        wrongType("list", read("[x|y]")),
	} {
		checkBody(t, read(body), v(0), v(1), 9, want)
		checkBody(t, f("|", read("b, c"), read(body)), read("[a]"), read("[]"), 0, want)
	}
}

// P10.1: a compound has at most MaxArity arguments.
func TestBodyOfManyArguments(t *testing.T) {
	for _, name := range []string{"f", "call", ",", `\+`, "{}", "[]", ".", "-->"} {
		most := wide(name, api.MaxArity-2)
		goal := wide(name, api.MaxArity-2)
		goal.Args = append(goal.Args, v(0), v(1))
		checkBody(t, most, v(0), v(1), 9, withNext(show(goal), 9))
		for arity := api.MaxArity - 1; arity <= api.MaxArity; arity++ {
			x := wide(name, arity)
			checkBody(t, x, v(0), v(1), 9, manyArguments)
			checkBody(t, f(",", x, tree.Int(3)), v(0), v(1), 9, manyArguments)
			checkBody(t, f("|", tree.Int(3), x), v(0), v(1), 9, wrongType("callable", tree.Int(3)))
			checkBody(t, f("->", read("[x|y]"), x), v(0), v(1), 9, wrongType("list", read("[x|y]")))
			checkBody(t, f(`\+`, x), v(0), v(1), 9, manyArguments)
			checkBody(t, f("{}", x), v(0), v(1), 9, withNext(show(f(",", x, read("_0 = _1"))), 9))
			checkBody(t, list(x), v(0), v(1), 9, withNext(show(f("=", v(0), tree.List([]api.Term{x}, v(1)))), 9))
		}
	}
}

// P10.1: a goal has at most MaxNodes nodes, counted to the last one.
func TestBodyOfManyNodes(t *testing.T) {
	for _, text := range []string{"_5", "a, b", "a ; b ; c", "a | b", "a -> b", `\+ a`, "{}", "{a}", "!", "[]", "[a, b]", "call(a)", "a", "f(a, _5)"} {
		for _, sizes := range [][2]int{{1, 1}, {50, 70}, {600, 3}, {3, 600}} {
			from, to := sized(sizes[0]), sized(sizes[1])
			padded := func(more int) api.Term { return f(",", f("{}", sized(more)), read(text)) }
			least, _ := modelBody(padded(1), from, to, 9)
			most := padded(1 + api.MaxNodes - nodes(least))
			goal, next := modelBody(most, from, to, 9)
			checkBody(t, most, from, to, 9, withNext(goal, next))
			checkBody(t, padded(2+api.MaxNodes-nodes(least)), from, to, 9, manyNodes)
		}
	}
}

// P10.1: it is looked at behind all else.
func TestBodyOfManyNodesThatIsNone(t *testing.T) {
	from, to := sized(1), sized(api.MaxNodes)
	checkBody(t, read("a, b"), from, to, 9, manyNodes)
	checkBody(t, read("a, 3"), from, to, 9, wrongType("callable", tree.Int(3)))
	checkBody(t, read("a ; [x|y]"), from, to, 9, wrongType("list", read("[x|y]")))
	checkBody(t, f("->", atom("a"), wide("f", api.MaxArity)), from, to, 9, manyArguments)
}

// P10.1: the lists alone may be too much.
func TestBodyBetweenManyNodes(t *testing.T) {
	for _, size := range []int{1, 2, 1000, 1999, 3997, 3998} {
		from, to := sized(size), sized(api.MaxNodes-1-size)
		checkBody(t, atom("[]"), from, to, 9, withNext(show(f("=", from, to)), 9))
		checkBody(t, atom("a"), from, to, 9, withNext(show(f("a", from, to)), 9))
		checkBody(t, atom("[]"), sized(size+1), to, 9, manyNodes)
		checkBody(t, atom("a"), from, sized(api.MaxNodes-size), 9, manyNodes)
	}
	most := sized(api.MaxNodes)
	checkBody(t, atom("[]"), most, v(0), 9, manyNodes)
	checkBody(t, atom("a"), v(0), most, 9, manyNodes)
	checkBody(t, tree.Int(3), most, most, 9, wrongType("callable", tree.Int(3)))
}

// chain is a body that holds others in one another, to the left or the right.
func chain(name string, count int, toLeft bool) api.Term {
	t := atom("[]")
	for range count {
		if toLeft {
			t = f(name, t, atom("[]"))
		} else {
			t = f(name, atom("[]"), t)
		}
	}
	return t
}

// R1: the greatest bodies come to an end, between the greatest lists too.
func TestGreatestBodies(t *testing.T) {
	most := sized(api.MaxNodes)
	for _, name := range []string{",", ";", "|", "->"} {
		for _, toLeft := range []bool{false, true} {
			x := chain(name, (api.MaxNodes-1)/2, toLeft)
			checkBody(t, x, most, most, 9, manyNodes)
			checkBody(t, x, v(0), v(1), 9, manyNodes)
			rule := f("-->", atom("a"), chain(name, 998, toLeft))
			checkRule(t, rule, modelRule(rule))
		}
	}
	not := atom("a")
	for range 660 {
		not = f(`\+`, not)
	}
	goal, next := modelBody(not, v(0), v(1), 9)
	checkBody(t, not, v(0), v(1), 9, withNext(goal, next))
	checkBody(t, not, most, most, 9, manyNodes)
	var elements []api.Term
	for range (api.MaxNodes - 3) / 2 {
		elements = append(elements, atom("x"))
	}
	checkBody(t, list(elements...), v(0), v(1), 9, withNext(show(f("=", v(0), tree.List(elements, v(1)))), 9))
	checkBody(t, list(elements...), v(0), sized(4), 9, manyNodes)
	checkBody(t, tree.List(elements, v(5)), most, most, 9, wrongType("list", tree.List(elements, v(5))))
}

// P10.1: next is 0 to 2^62.
func TestBodyOfNext(t *testing.T) {
	for _, next := range []int{-1, -2, math.MinInt, mostVar + 1, mostVar + 2, math.MaxInt} {
		for _, body := range []string{"a", "_5", "a, b", "3", "[x|y]"} {
			checkBody(t, read(body), v(0), v(1), next, failure(api.ErrArg))
		}
		checkBody(t, wide("f", api.MaxArity), v(0), v(1), next, failure(api.ErrArg))
		checkBody(t, atom("[]"), sample.Wide(api.MaxNodes), v(1), next, failure(api.ErrArg))
	}
	for _, next := range []int{0, 1, 1000, mostVar - 1, mostVar} {
		want := f(",", f("a", v(0), v(next)), f(",", f("b", v(next), v(next+1)), f("c", v(next+1), v(1))))
		checkBody(t, read("a, b, c"), v(0), v(1), next, withNext(show(want), next+2))
		checkBody(t, atom("a"), v(0), v(1), next, withNext(show(read("a(_0, _1)")), next))
	}
	far := v(math.MaxInt)
	checkBody(t, f("f", far), far, v(mostVar+1), 0, withNext(show(f("f", far, far, v(mostVar+1))), 0))
}
