package clause_test

import (
	"testing"

	"hornbeam/api"
	"hornbeam/sample"
	"hornbeam/tree"
)

// P11.1: each kind of a body, and what stands in one another.
func TestReady(t *testing.T) {
	for goal, want := range map[string]string{
		"true":                    "true",
		"!":                       "cut",
		"a":                       `call "a"`,
		"f(_7, a, 3)":             `call "f"(_7,"a",3)`,
		"_3":                      `call "call"(_3)`,
		"a, b":                    `and(call "a", call "b")`,
		"a, b, c":                 `and(call "a", and(call "b", call "c"))`,
		"(a, b), c":               `and(and(call "a", call "b"), call "c")`,
		"_3, _3":                  `and(call "call"(_3), call "call"(_3))`,
		"true, !":                 "and(true, cut)",
		"a ; b":                   `or(call "a", call "b")`,
		"a ; b ; c":               `or(call "a", or(call "b", call "c"))`,
		"(a ; b) ; c":             `or(or(call "a", call "b"), call "c")`,
		"a -> b":                  `if(call "a", call "b")`,
		"a -> b -> c":             `if(call "a", if(call "b", call "c"))`,
		"(a -> b) -> c":           `if(if(call "a", call "b"), call "c")`,
		"a -> b ; c":              `if(call "a", call "b", call "c")`,
		"a -> b ; c -> d":         `if(call "a", call "b", if(call "c", call "d"))`,
		"a -> b ; c -> d ; e":     `if(call "a", call "b", if(call "c", call "d", call "e"))`,
		"(a -> b ; c) -> d":       `if(if(call "a", call "b", call "c"), call "d")`,
		"(a -> b ; c) ; d":        `or(if(call "a", call "b", call "c"), call "d")`,
		"a ; b -> c":              `or(call "a", if(call "b", call "c"))`,
		"((a -> b), true) ; c":    `or(and(if(call "a", call "b"), true), call "c")`,
		"m : (a -> b) ; c":        `or(module "m"(if(call "a", call "b")), call "c")`,
		"_1 -> ! ; _2":            `if(call "call"(_1), cut, call "call"(_2))`,
		"a, (_3 -> b ; !)":        `and(call "a", if(call "call"(_3), call "b", cut))`,
		"m : a":                   `module "m"(call "a")`,
		"m : (a ; true)":          `module "m"(or(call "a", true))`,
		"m : n : a":               `module "m"(module "n"(call "a"))`,
		"m : !":                   `module "m"(cut)`,
		"m : (_3, a)":             `module "m"(and(call "call"(_3), call "a"))`,
		"[] : f(1)":               `module "[]"(call "f"(1))`,
		"m : _3":                  `call "call"(":"("m",_3))`,
		"_3 : a":                  `call "call"(":"(_3,"a"))`,
		"_3 : f(_4)":              `call "call"(":"(_3,"f"(_4)))`,
		"_3 : (a, 1)":             `call "call"(":"(_3,","("a",1)))`,
		"_3 : true":               `call "call"(":"(_3,"true"))`,
		"_3 : _3":                 `call "call"(":"(_3,_3))`,
		"_3 : _4":                 `call "call"(":"(_3,_4))`,
		"_3 : 1 : a":              `call "call"(":"(_3,":"(1,"a")))`,
		"m : _3 : a":              `module "m"(call "call"(":"(_3,"a")))`,
		"m : n : _3":              `module "m"(call "call"(":"("n",_3)))`,
		"call(_3)":                `call "call"(_3)`,
		"call(1)":                 `call "call"(1)`,
		"call((a, 1))":            `call "call"(","("a",1))`,
		"\\+ (a, 1)":              `call "\\+"(","("a",1))`,
		"findall(_0, (_1, 2), l)": `call "findall"(_0,","(_1,2),"l")`,
		"[a|b]":                   `call "."("a","b")`,
		"[]":                      `call "[]"`,
		"{a, 1}":                  `call "{}"(","("a",1))`,
		"a :- 1":                  `call ":-"("a",1)`,
		"a --> b":                 `call "-->"("a","b")`,
		"a | b":                   `call "|"("a","b")`,
		"a = 1.5":                 `call "="("a",1.5f)`,
		"''":                      `call ""`,
	} {
		checkReady(t, read(goal), want)
	}
}

// P11.1: what has a name of control, but other arguments, is called.
func TestReadyOfOtherArguments(t *testing.T) {
	for _, goal := range []string{
		"true(a)", "true(1, 2)", "!(a)", "!(_0, 1)", "','", "','(1)", "','(1, 2, 3)", "';'", "';'(1)", "';'((a -> b), 2, 3)", "'->'", "'->'(1)", "'->'(1, 2, 3)", "':'", "':'(1)", "':'(1, 2, 3)", "fail", "'True'", "'true '",
	} {
		checkReady(t, read(goal), "call "+show(read(goal)))
		checkReady(t, f(",", read(goal), atom("!")), "and(call "+show(read(goal))+", cut)")
	}
	checkReady(t, f(";", f("->", atom("a"), atom("b"), atom("c")), atom("d")), `or(call "->"("a","b","c"), call "d")`)
	checkReady(t, f(";", atom("->"), atom("d")), `or(call "->", call "d")`)
}

// P11.1: what has no body; the ball is of the whole goal.
func TestNoBody(t *testing.T) {
	for _, goal := range []string{
		"1", "-1", "2.5", "0", "123456789012345678901234567890",
		"a, 1", "1, a", "1, 2", "a ; 1", "1 ; a", "a -> 1", "1 -> a", "a -> b ; 1", "a -> 1 ; b", "1 -> a ; b", "_0, 2.5", "(a, b ; c -> !, 1)",
		"1 : a", "2.5 : a", "f(a) : a", "[m] : a", "(m : n) : a", "(_3 : n) : a", "m : 1", "m : 2.5", "m : (a, 1)", "m : n : 1", "m : 1 : a", "m : f(a) : b",
		"_3 : 1", "_3 : 2.5", "1 : _3", "2.5 : _3", "f(_3) : _3", "f(a) : _3", "1 : 2", "1 : f(a)", "f(a) : 1", "f(a) : f(a)",
		"_3, 1 : _3", "m : (a ; f(a) : _3)", "_3 : a, 1", "f(_9), g(_2), 1",
	} {
		x := read(goal)
		checkReady(t, x, wrongType("callable", x))
		checkReady(t, f(";", f("f", x), f("->", x, v(4))), wrongType("callable", f(";", f("f", x), f("->", x, v(4)))))
		checkReady(t, f("f", x), "call "+show(f("f", x)))
		checkReady(t, f(":", v(8), f(",", x, x)), `call "call"(":"(_8,`+show(f(",", x, x))+`))`)
	}
}

// nested is a goal of so many nodes, which holds others to the left or the right.
func nested(name string, nodes int, toLeft bool) api.Term {
	t := atom("a")
	if nodes%2 == 0 {
		t = f("f", t)
	}
	for range (nodes - 1) / 2 {
		if toLeft {
			t = f(name, t, atom("a"))
		} else {
			t = f(name, atom("a"), t)
		}
	}
	return t
}

// P11.1: the body's term has at most MaxNodes nodes.
func TestReadyOfManyNodes(t *testing.T) {
	checkReady(t, wide(api.MaxNodes), "call "+show(wide(api.MaxNodes)))
	checkReady(t, sample.Deep(api.MaxNodes), "call "+show(sample.Deep(api.MaxNodes)))
	checkReady(t, f(":", atom("m"), wide(api.MaxNodes-2)), `module "m"(call `+show(wide(api.MaxNodes-2))+")")
	for _, name := range []string{",", ";", "->"} {
		for _, toLeft := range []bool{false, true} {
			for _, nodes := range []int{api.MaxNodes - 1, api.MaxNodes} {
				x := nested(name, nodes, toLeft)
				body, _, _ := modelBody(x)
				checkReady(t, x, body)
			}
		}
	}
	for _, goal := range []string{"_3", "_3 : a", "m : _3", "_3 : _3"} {
		x := read(goal)
		size, most := countOf(x), func(nodes int) api.Term { return f(",", wide(nodes), x) }
		checkReady(t, most(api.MaxNodes-2-size), "and(call "+show(wide(api.MaxNodes-2-size))+`, call "call"(`+show(x)+"))")
		checkReady(t, most(api.MaxNodes-1-size), manyNodes)
		checkReady(t, f(",", f("->", atom("a"), x), most(api.MaxNodes-5-2*size)), manyNodes)
		checkReady(t, f(";", f("->", atom("a"), x), most(api.MaxNodes-6-2*size)), "if(call \"a\", call \"call\"("+show(x)+"), and(call "+show(wide(api.MaxNodes-6-2*size))+`, call "call"(`+show(x)+")))")
	}
	checkReady(t, f(":", v(0), wide(api.MaxNodes-3)), `call "call"(":"(_0,`+show(wide(api.MaxNodes-3))+"))")
	checkReady(t, f(":", v(0), wide(api.MaxNodes-2)), manyNodes)
}

// P11.1: that there is no body is told ahead of the size.
func TestNoBodyOfManyNodes(t *testing.T) {
	x := tree.Int(1)
	for range (api.MaxNodes - 1) / 2 {
		x = f(",", v(0), x)
	}
	checkReady(t, x, wrongType("callable", x))
}

// P11.1: R7.
func TestReadyOfMistakes(t *testing.T) {
	for _, m := range sample.Mistakes() {
		checkReady(t, m.Term, failure(m.Errno))
		if m.Errno == api.ErrTermNodes {
			continue
		}
		checkReady(t, f(",", tree.Int(1), m.Term), failure(m.Errno))
		checkReady(t, f("f", tree.Int(1), m.Term), failure(m.Errno))
		checkReady(t, f(":", m.Term, atom("a")), failure(m.Errno))
		for _, other := range sample.Mistakes() {
			if other.Errno != api.ErrTermNodes {
				checkReady(t, f(":", m.Term, other.Term), failure(m.Errno))
			}
		}
	}
}
