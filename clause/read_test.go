package clause_test

import (
	"math"
	"testing"

	"hornbeam/api"
	"hornbeam/sample"
	"hornbeam/tree"
)

// P11.2: the module, the head, the body, and how many variables there are.
func TestRead(t *testing.T) {
	for text, want := range map[string]string{
		"p":                                `user: "p" :- true, 0 variables`,
		"p :- true":                        `user: "p" :- true, 0 variables`,
		"p(_5, _2) :- q(_2, _9)":           `user: "p"(_0,_1) :- call "q"(_1,_2), 3 variables`,
		"p(_5, f(_5), _5)":                 `user: "p"(_0,"f"(_0),_0) :- true, 1 variables`,
		"p :- _7, !, _7":                   `user: "p" :- and(call "call"(_0), and(cut, call "call"(_0))), 1 variables`,
		"p(_1, _0) :- (_2 -> _0 ; q(_1))":  `user: "p"(_0,_1) :- if(call "call"(_2), call "call"(_1), call "q"(_0)), 3 variables`,
		"p :- _4 : q(_3), m : (r(_3), _4)": `user: "p" :- and(call "call"(":"(_0,"q"(_1))), module "m"(and(call "r"(_1), call "call"(_0)))), 2 variables`,
		"m : p":                            `m: "p" :- true, 0 variables`,
		"m : (p :- q)":                     `m: "p" :- call "q", 0 variables`,
		"m : p :- q":                       `m: "p" :- call "q", 0 variables`,
		"m : n : p :- q":                   `n: "p" :- call "q", 0 variables`,
		"m : n : (p :- q)":                 `n: "p" :- call "q", 0 variables`,
		"m : (n : p :- q)":                 `n: "p" :- call "q", 0 variables`,
		"m : (n : k : p :- l : q)":         `k: "p" :- module "l"(call "q"), 0 variables`,
		"[] : p":                           `[]: "p" :- true, 0 variables`,
		"'' : p":                           `: "p" :- true, 0 variables`,
		"m : p(_3) :- m : q(_3)":           `m: "p"(_0) :- module "m"(call "q"(_0)), 1 variables`,
		"(a :- b) :- c":                    `user: ":-"("a","b") :- call "c", 0 variables`,
		"m : (a :- b) :- c":                `m: ":-"("a","b") :- call "c", 0 variables`,
		":- a":                             `user: ":-"("a") :- true, 0 variables`,
		"':-'(a, b, c)":                    `user: ":-"("a","b","c") :- true, 0 variables`,
		"':-'":                             `user: ":-" :- true, 0 variables`,
		"':'":                              `user: ":" :- true, 0 variables`,
		"':'(a)":                           `user: ":"("a") :- true, 0 variables`,
		"':'(1, 2, 3) :- a":                `user: ":"(1,2,3) :- call "a", 0 variables`,
		"a --> b":                          `user: "-->"("a","b") :- true, 0 variables`,
		"a, b":                             `user: ","("a","b") :- true, 0 variables`,
		"! :- !":                           `user: "!" :- cut, 0 variables`,
		"true :- a":                        `user: "true" :- call "a", 0 variables`,
		"(a, b) :- c":                      `user: ","("a","b") :- call "c", 0 variables`,
		"p :- (q :- r)":                    `user: "p" :- call ":-"("q","r"), 0 variables`,
		"p(a, 1) :- q ; 2.5 = _0":          `user: "p"("a",1) :- or(call "q", call "="(2.5f,_0)), 1 variables`,
		"[a|_3]":                           `user: "."("a",_0) :- true, 1 variables`,
	} {
		checkRead(t, "user", read(text), want)
	}
}

// P11.2: the greatest numbers of variables are numbered too.
func TestReadOfGreatNumbers(t *testing.T) {
	far := v(math.MaxInt)
	checkRead(t, "user", f(":-", f("p", far, v(math.MaxInt-1)), f("q", v(0), far)), `user: "p"(_0,_1) :- call "q"(_2,_0), 3 variables`)
}

// P11.2: without a module ahead of it, it is of that which is handed in, whatever
// it is.
func TestReadForModule(t *testing.T) {
	for _, module := range []string{"user", "m", "", "a b", "\xff"} {
		checkRead(t, module, read("p(_1)"), module+`: "p"(_0) :- true, 1 variables`)
		checkRead(t, module, read("p :- _3 : a"), module+`: "p" :- call "call"(":"(_0,"a")), 1 variables`)
		checkRead(t, module, read("n : p :- a"), `n: "p" :- call "a", 0 variables`)
	}
}

// P11.2: what is no clause; the balls have the variables that were handed in.
func TestNoClause(t *testing.T) {
	for text, want := range map[string]string{
		"_3":                       instantiation,
		"_3 :- a":                  instantiation,
		"_3 :- 1":                  instantiation,
		"m : _3":                   instantiation,
		"m : (_3 :- a)":            instantiation,
		"m : _3 :- a":              instantiation,
		"_3 : p":                   instantiation,
		"_3 : 1":                   instantiation,
		"_3 : p :- a":              instantiation,
		"_3 : 1 :- 1":              instantiation,
		"m : _3 : p :- a":          instantiation,
		"_3 : (p :- a)":            instantiation,
		"m : _3 : (p :- 1)":        instantiation,
		"_3 : (1 : p :- 1)":        instantiation,
		"1":                        wrongType("callable", read("1")),
		"2.5":                      wrongType("callable", read("2.5")),
		"3 :- a":                   wrongType("callable", read("3")),
		"3 :- 4":                   wrongType("callable", read("3")),
		"m : 3":                    wrongType("callable", read("3")),
		"m : 3 :- a":               wrongType("callable", read("3")),
		"m : (3 :- a)":             wrongType("callable", read("3")),
		"1 : p":                    wrongType("atom", read("1")),
		"2.5 : p":                  wrongType("atom", read("2.5")),
		"f(_7) : p":                wrongType("atom", read("f(_7)")),
		"(m : n) : p":              wrongType("atom", read("m : n")),
		"1 : _3":                   wrongType("atom", read("1")),
		"1 : p :- 2":               wrongType("atom", read("1")),
		"m : 1 : p :- 2":           wrongType("atom", read("1")),
		"m : 1 : (p :- 2)":         wrongType("atom", read("1")),
		"1 : (_3 : p :- 2)":        wrongType("atom", read("1")),
		"f(_7) : f(_8) : p":        wrongType("atom", read("f(_7)")),
		"p :- 4":                   wrongType("callable", read("4")),
		"p :- 2.5":                 wrongType("callable", read("2.5")),
		"p(_7) :- q(_9), (_9 ; 4)": wrongType("callable", read("q(_9), (_9 ; 4)")),
		"p :- f(_3) : _4":          wrongType("callable", read("f(_3) : _4")),
		"m : p :- 4, 5":            wrongType("callable", read("4, 5")),
		"m : (p :- 1 : a)":         wrongType("callable", read("1 : a")),
	} {
		checkRead(t, "user", read(text), want)
	}
}

// P11.2: head and body have at most MaxClause nodes together, as Term tells the
// body.
func TestReadOfManyNodes(t *testing.T) {
	of := func(nodes int) api.Term { return f("w", wide(nodes-1)) }
	fits := func(head, body api.Term) {
		t.Helper()
		checkRead(t, "user", f(":-", head, body), modelRead("user", f(":-", head, body)))
		text, n, _ := modelBody(body)
		if countOf(head)+n != api.MaxClause {
			t.Errorf("%s and its head have %d nodes", short(text), countOf(head)+n)
		}
	}
	tooBig := func(head, body api.Term) {
		t.Helper()
		checkRead(t, "user", f(":-", head, body), bigClause)
	}
	checkRead(t, "user", of(399), "user: "+show(of(399))+" :- true, 0 variables")
	checkRead(t, "user", f(":", atom("m"), f(":", atom("n"), of(399))), "n: "+show(of(399))+" :- true, 0 variables")
	checkRead(t, "user", of(400), bigClause)
	checkRead(t, "user", of(api.MaxNodes), bigClause)
	fits(of(399), atom("true"))
	tooBig(of(400), atom("true"))
	fits(of(200), of(200))
	tooBig(of(200), of(201))
	tooBig(of(201), of(200))
	fits(atom("p"), of(399))
	tooBig(atom("p"), of(400))
	fits(f("p", v(1)), f(",", of(395), v(0)))
	tooBig(f("p", v(1)), f(",", of(396), v(0)))
	fits(f("p", v(1)), f(":", v(0), of(395)))
	tooBig(f("p", v(1)), f(":", v(0), of(396)))
	fits(atom("p"), f(":", atom("m"), of(397)))
	tooBig(atom("p"), f(":", atom("m"), of(398)))
	checkRead(t, "user", f(":-", f(":", atom("m"), of(200)), of(200)), "m: "+show(of(200))+" :- call "+show(of(200))+", 0 variables")
	fits(of(100), f(";", f("->", of(99), of(99)), of(100)))
	tooBig(of(100), f(";", f("->", of(99), of(99)), of(101)))
}

// P11.2: what is wrong otherwise is told ahead of the size, also where the body
// has more than MaxNodes nodes.
func TestNoClauseOfManyNodes(t *testing.T) {
	most := func(head, body api.Term) api.Term { return f(":-", head, body) }
	checkRead(t, "user", most(v(0), wide(500)), instantiation)
	checkRead(t, "user", most(tree.Int(1), wide(500)), wrongType("callable", tree.Int(1)))
	checkRead(t, "user", most(wide(500), tree.Int(1)), wrongType("callable", tree.Int(1)))
	checkRead(t, "user", most(f(":", wide(500), atom("p")), atom("a")), wrongType("atom", wide(500)))
	wrong := f(",", wide(3000), tree.Int(1))
	checkRead(t, "user", most(wide(900), wrong), wrongType("callable", wrong))
	x := atom("a")
	for range 1990 {
		x = f(",", v(0), x)
	}
	checkRead(t, "user", most(atom("p"), x), bigClause)
	checkRead(t, "user", most(v(3), x), instantiation)
	checkRead(t, "user", most(atom("p"), f(",", x, tree.Int(1))), wrongType("callable", f(",", x, tree.Int(1))))
}

// P11.2: R7.
func TestReadOfMistakes(t *testing.T) {
	for _, m := range sample.Mistakes() {
		checkRead(t, "user", m.Term, failure(m.Errno))
		if m.Errno == api.ErrTermNodes {
			continue
		}
		checkRead(t, "user", f(":-", tree.Int(1), m.Term), failure(m.Errno))
		checkRead(t, "user", f(":-", m.Term, tree.Int(1)), failure(m.Errno))
		checkRead(t, "user", f(":", m.Term, atom("p")), failure(m.Errno))
		checkRead(t, "user", f(":", tree.Int(1), m.Term), failure(m.Errno))
	}
}
