package dcg_test

import (
	"math"
	"testing"

	"hornbeam/api"
	"hornbeam/sample"
	"hornbeam/tree"
)

// P10.2.
func TestRule(t *testing.T) {
	for rule, clause := range map[string]string{
		"a --> b":                   "a(_0, _1) :- b(_0, _1)",
		"a --> b, c":                "a(_0, _1) :- b(_0, _2), c(_2, _1)",
		"a(_0) --> [x], {p(_0)}":    "a(_0, _1, _2) :- _1 = [x|_3], (p(_0), _3 = _2)",
		"a, [y] --> b":              "a(_0, _1) :- b(_0, _2), _1 = [y|_2]",
		`a --> \+ b, ! ; []`:        "a(_0, _1) :- (\\+ b(_0, _3), _0 = _2), (!, _2 = _1) ; _0 = _1",
		"a --> []":                  "a(_0, _1) :- _0 = _1",
		"a --> {}":                  "a(_0, _1) :- true, _0 = _1",
		"a --> _0":                  "a(_1, _2) :- phrase(_0, _1, _2)",
		"a(_4) --> b(_2), _4":       "a(_4, _5, _6) :- b(_2, _5, _7), phrase(_4, _7, _6)",
		"a --> b(_9)":               "a(_10, _11) :- b(_9, _10, _11)",
		"a, [_3] --> b(_0)":         "a(_4, _5) :- b(_0, _4, _6), _5 = [_3|_6]",
		"a(_3), [] --> b, c":        "a(_3, _4, _5) :- (b(_4, _7), c(_7, _6)), _5 = _6",
		"a, [x, y|[z]] --> []":      "a(_0, _1) :- _0 = _2, _1 = [x, y, z|_2]",
		`a, "x" --> !`:              "a(_0, _1) :- (!, _0 = _2), _1 = [120|_2]",
		"a, [[x|y], 3, b, c] --> d": "a(_0, _1) :- d(_0, _2), _1 = [[x|y], 3, b, c|_2]",
		"((a, [x]), [y]) --> b":     "','(a, [x], _0, _1) :- b(_0, _2), _1 = [y|_2]",
		"(a ; b) --> c":             "';'(a, b, _0, _1) :- c(_0, _1)",
		"','(a) --> b":              "','(a, _0, _1) :- b(_0, _1)",
		"','(a, [x], y) --> b":      "','(a, [x], y, _0, _1) :- b(_0, _1)",
		"',' --> b":                 "','(_0, _1) :- b(_0, _1)",
		"[] --> b":                  "[](_0, _1) :- b(_0, _1)",
		"[x|y] --> b":               "'.'(x, y, _0, _1) :- b(_0, _1)",
		"{a} --> b":                 "{}(a, _0, _1) :- b(_0, _1)",
		"! --> b":                   "!(_0, _1) :- b(_0, _1)",
		"call(a) --> b":             "call(a, _0, _1) :- b(_0, _1)",
		"(a --> b) --> c":           "'-->'(a, b, _0, _1) :- c(_0, _1)",
		"a --> (b --> c)":           "a(_0, _1) :- '-->'(b, c, _0, _1)",
		"a --> call(_0), {_1}":      "a(_2, _3) :- call(_0, _2, _4), (_1, _4 = _3)",
	} {
		checkRule(t, read(rule), show(read(clause)))
	}
}

// P10.2: what cannot be a rule.
func TestNoRule(t *testing.T) {
	for rule, want := range map[string]string{
		"(a, [x], [y]) --> b": wrongType("list", read("[x], [y]")),
		"_0 --> b":            instantiation,
		"_0, [x] --> b":       instantiation,
		"_0, x --> 3":         instantiation,
		"1 --> b":             wrongType("callable", read("1")),
		"1.5 --> b":           wrongType("callable", read("1.5")),
		"1, [x] --> b":        wrongType("callable", read("1")),
		"1, x --> 3":          wrongType("callable", read("1")),
		"a, x --> b":          wrongType("list", read("x")),
		"a, _3 --> b":         wrongType("list", read("_3")),
		"a, [x|y] --> b":      wrongType("list", read("[x|y]")),
		"a, [x|_0] --> b":     wrongType("list", read("[x|_0]")),
		"a, '.'(x) --> b":     wrongType("list", read("'.'(x)")),
		"a, '[]'(x) --> b":    wrongType("list", read("'[]'(x)")),
		"a, {} --> b":         wrongType("list", read("{}")),
		"a, 7 --> 3":          wrongType("list", read("7")),
		"a --> [x|y]":         wrongType("list", read("[x|y]")),
		"a --> 3":             wrongType("callable", read("3")),
		"a, [x] --> 3":        wrongType("callable", read("3")),
		"a --> b, [x|y], 3":   wrongType("list", read("[x|y]")),
		"a":                   wrongType("dcg_rule", read("a")),
		"_3":                  wrongType("dcg_rule", read("_3")),
		"7":                   wrongType("dcg_rule", read("7")),
		"7.5":                 wrongType("dcg_rule", read("7.5")),
		"a :- b":              wrongType("dcg_rule", read("a :- b")),
		"'-->'":               wrongType("dcg_rule", read("'-->'")),
		"'-->'(a)":            wrongType("dcg_rule", read("'-->'(a)")),
		"'-->'(a, b, c)":      wrongType("dcg_rule", read("'-->'(a, b, c)")),
		"f((a --> b), _0, 3)": wrongType("dcg_rule", read("f((a --> b), _0, 3)")),
	} {
		checkRule(t, read(rule), want)
	}
}

// P10.2: a head has at most MaxArity arguments; that is told behind what is
// wrong with it otherwise, and ahead of what is wrong with the body.
func TestRuleOfManyArguments(t *testing.T) {
	for _, name := range []string{"f", "call", ",", ".", "{}"} {
		most := wide(name, api.MaxArity-2)
		head := f(name, append(wide(name, api.MaxArity-2).Args, v(0), v(1))...)
		checkRule(t, f("-->", most, atom("b")), show(f(":-", head, read("b(_0, _1)"))))
		checkRule(t, f("-->", f(",", most, read("[x]")), atom("b")), show(f(":-", head, read("b(_0, _2), _1 = [x|_2]"))))
		for arity := api.MaxArity - 1; arity <= api.MaxArity; arity++ {
			head := wide(name, arity)
			for _, body := range []string{"b", "3", "[x|y]"} {
				checkRule(t, f("-->", head, read(body)), manyArguments)
				checkRule(t, f("-->", f(",", head, read("[x]")), read(body)), manyArguments)
				checkRule(t, f("-->", f(",", head, read("[x|y]")), read(body)), wrongType("list", read("[x|y]")))
				checkRule(t, f("-->", f(",", read("f(a)"), read("[x]")), f(",", head, read(body))), manyArguments)
			}
			checkRule(t, f("-->", head, f("{}", sized(api.MaxNodes-200))), manyArguments)
		}
	}
}

// P10.2: a clause has at most MaxNodes nodes, counted to the last one.
func TestRuleOfManyNodes(t *testing.T) {
	for _, text := range []string{"a --> b", "a(_3), [x, y] --> b, c", "f(_0) --> [a] ; {p(_0)}", "a, [] --> []"} {
		rule := read(text)
		padded := func(more int) api.Term { return f("-->", rule.Args[0], f(",", f("{}", sized(more)), rule.Args[1])) }
		inHead := func(more int) api.Term {
			return f("-->", f(",", f("f", sized(more)), read("[x]")), rule.Args[1])
		}
		pushed := func(more int) api.Term { return f("-->", f(",", atom("a"), list(sized(more))), rule.Args[1]) }
		for _, build := range []func(more int) api.Term{padded, inHead, pushed} {
			room := 1 + api.MaxNodes - nodes(modelRule(build(1)))
			clause := modelRule(build(room))
			if nodes(clause) != api.MaxNodes {
				t.Fatalf("%s: %d nodes", text, nodes(clause))
			}
			checkRule(t, build(room), clause)
			checkRule(t, build(room+1), manyNodes)
			worse := build(room + 1)
			worse.Args[1] = f(",", worse.Args[1], read("[x|y]"))
			checkRule(t, worse, wrongType("list", read("[x|y]")))
		}
	}
}

// P10.2: no variable has a number above 2^62, and that comes first.
func TestRuleOfGreatNumbers(t *testing.T) {
	for _, n := range []int{mostVar + 1, mostVar + 2, math.MaxInt} {
		for _, x := range []api.Term{
			v(n), f("f", v(n)), f("-->", v(n), atom("b")), f("-->", atom("a"), v(n)), f("-->", read("_3"), f("f", v(0), v(n))), f("-->", f("f", v(n)), tree.Int(3)), f("-->", tree.Int(1), f("{}", v(n))),
			f("-->", f(",", atom("a"), list(v(n))), read("f(_0)")), f("-->", wide("f", api.MaxArity), v(n)),
		} {
			checkRule(t, x, failure(api.ErrArg))
		}
	}
	for _, n := range []int{mostVar - 2, mostVar - 1, mostVar} {
		checkRule(t, f("-->", f("a", v(n)), read("b, c")), show(f(":-", f("a", v(n), v(n+1), v(n+2)), f(",", f("b", v(n+1), v(n+3)), f("c", v(n+3), v(n+2))))))
		checkRule(t, f("-->", f(",", atom("a"), list(v(3))), v(n)), show(f(":-", f("a", v(n+1), v(n+2)), f(",", f("phrase", v(n), v(n+1), v(n+3)), f("=", v(n+2), tree.List([]api.Term{v(3)}, v(n+3)))))))
		checkRule(t, f("-->", v(0), v(n)), instantiation)
		checkRule(t, f("f", v(n)), wrongType("dcg_rule", f("f", v(n))))
	}
}

// P10.2: what is no rule is told whole.
func TestGreatestTermThatIsNoRule(t *testing.T) {
	for _, x := range []api.Term{sample.Deep(api.MaxNodes), sample.Wide(api.MaxNodes)} {
		checkRule(t, x, wrongType("dcg_rule", x))
	}
}
