package clause_test

import (
	"testing"

	"hornbeam/api"
	"hornbeam/clause"
	"hornbeam/sample"
	"hornbeam/tree"
)

// The model tells bodies as text, as showBody shows them, by the chapter's words.

// countOf is how many nodes a term has.
func countOf(t api.Term) int {
	n := 1
	for _, part := range t.Args {
		n += countOf(part)
	}
	return n
}

// modelBody is the body of a goal, and how many nodes the term has that Term
// tells of it; false: there is none.
func modelBody(t api.Term) (string, int, bool) {
	switch sample.Place(t) {
	case "a number":
		return "", 0, false
	case "a variable":
		return `call "call"(` + show(t) + ")", 2, true
	case "true/0":
		return "true", 1, true
	case "!/0":
		return "cut", 1, true
	case ",/2":
		return modelOf("and", t.Args)
	case "->/2":
		return modelOf("if", t.Args)
	case ";/2":
		if c := t.Args[0]; sample.Place(c) == "->/2" {
			body, n, is := modelOf("if", []api.Term{c.Args[0], c.Args[1], t.Args[1]})
			return body, n + 1, is
		}
		return modelOf("or", t.Args)
	case ":/2":
		return modelModule(t)
	}
	return "call " + show(t), countOf(t), true
}

func modelOf(name string, parts []api.Term) (string, int, bool) {
	out, nodes, is := name, 1, true
	for i, part := range parts {
		body, n, isOne := modelBody(part)
		mark := ", "
		if i == 0 {
			mark = "("
		}
		out, nodes, is = out+mark+body, nodes+n, is && isOne
	}
	return out + ")", nodes, is
}

func modelModule(t api.Term) (string, int, bool) {
	m, g := t.Args[0], t.Args[1]
	isOpen := m.Kind == api.Var || g.Kind == api.Var
	hasNumber := sample.Place(m) == "a number" || sample.Place(g) == "a number"
	switch {
	case isOpen && !hasNumber && m.Kind != api.Compound:
		return `call "call"(` + show(t) + ")", 1 + countOf(t), true
	case !isOpen && m.Kind == api.Atom:
		body, n, is := modelOf("module "+show(m), []api.Term{g})
		return body, n + 1, is
	}
	return "", 0, false
}

// modelReady is what the chapter asks of Ready, of a term that may be.
func modelReady(t api.Term) string {
	body, n, is := modelBody(t)
	switch {
	case !is:
		return wrongType("callable", t)
	case n > 4000:
		return manyNodes
	}
	return body
}

// modelStripped takes the modules off a term; it tells a ball, if there is one.
func modelStripped(module string, t api.Term) (string, api.Term, string) {
	if sample.Place(t) != ":/2" {
		return module, t, ""
	}
	switch m := t.Args[0]; m.Kind {
	case api.Var:
		return "", t, instantiation
	case api.Atom:
		return modelStripped(m.Name, t.Args[1])
	default:
		return "", t, wrongType("atom", m)
	}
}

// modelRead is what the chapter asks of Read, of a term that may be.
func modelRead(module string, t api.Term) string {
	module, t, wrong := modelStripped(module, t)
	if wrong != "" {
		return wrong
	}
	h, b := t, atom("true")
	if sample.Place(t) == ":-/2" {
		h, b = t.Args[0], t.Args[1]
	}
	module, h, wrong = modelStripped(module, h)
	if wrong != "" {
		return wrong
	}
	_, n, is := modelBody(b)
	switch {
	case h.Kind == api.Var:
		return instantiation
	case sample.Place(h) == "a number":
		return wrongType("callable", h)
	case !is:
		return wrongType("callable", b)
	case countOf(h)+n > 400:
		return bigClause
	}
	var met []int
	h, b = renumbered(h, &met), renumbered(b, &met)
	body, _, _ := modelBody(b)
	return module + ": " + show(h) + " :- " + body + ", " + tree.Int(len(met)).Num + " variables"
}

// renumbered is a term with its variables numbered by their places in a list of
// those that were met, to which it adds.
func renumbered(t api.Term, met *[]int) api.Term {
	if t.Kind == api.Var {
		for i, n := range *met {
			if n == t.Var {
				return v(i)
			}
		}
		*met = append(*met, t.Var)
		return v(len(*met) - 1)
	}
	var args []api.Term
	for _, part := range t.Args {
		args = append(args, renumbered(part, met))
	}
	t.Args = args
	return t
}

// modelTerm is the term of a body that Ready makes.
func modelTerm(b api.Body) api.Term {
	var l []api.Term
	for _, sub := range b.Sub {
		l = append(l, modelTerm(sub))
	}
	switch b.Kind {
	case api.BTrue:
		return atom("true")
	case api.BCut:
		return atom("!")
	case api.BAnd:
		return f(",", l...)
	case api.BOr:
		return f(";", l...)
	case api.BModule:
		return f(":", b.Term, l[0])
	case api.BIf:
		t := f("->", l[:2:2]...)
		if len(l) == 3 {
			t = f(";", t, l[2])
		}
		return t
	}
	return b.Term
}

// modelMade tells whether Ready makes a body, by its parts; that its term has no
// more than MaxNodes nodes is not looked at.
func modelMade(b api.Body) bool {
	for _, sub := range b.Sub {
		if !modelMade(sub) {
			return false
		}
	}
	parts, t := len(b.Sub), b.Term
	switch b.Kind {
	case api.BTrue, api.BCut:
		return parts == 0 && isNone(t)
	case api.BCall:
		switch sample.Place(t) {
		case "a variable", "a number", "true/0", "!/0", ",/2", ";/2", "->/2", ":/2":
			return false
		}
		return parts == 0 && isTerm(t)
	case api.BAnd:
		return parts == 2 && isNone(t)
	case api.BOr:
		return parts == 2 && isNone(t) && (b.Sub[0].Kind != api.BIf || len(b.Sub[0].Sub) == 3)
	case api.BIf:
		return (parts == 2 || parts == 3) && isNone(t)
	case api.BModule:
		return parts == 1 && t.Kind == api.Atom && isTerm(t)
	}
	return false
}

// leaf is a goal that holds no other one; few have no body.
func leaf(d *sample.Dice) api.Term {
	switch d.Next(24) {
	case 0:
		return pick(d, "1", "-2", "2.5")
	case 1, 2, 3:
		return v(d.Next(6))
	case 4, 5:
		return atom("!")
	case 6, 7:
		return atom("true")
	case 8, 9, 10:
		return pick(d, "_1 : a", "m : _2", "_3 : _3", "_0 : n : _1", "n : f(_4)", "_2 : (a, 1)")
	case 11, 12:
		return pick(d, "true(a)", "','(1, 2, 3)", "';'", "'->'(_1)", "':'", "!(_2)", "(a :- b)", "[a|_1]")
	case 13:
		return f("f", wide(1+d.Next(300)))
	}
	return pick(d, "a", "b", "f(_1)", "g(_2, [a|_3], 1.5)", "call(_4)", "h(_9, _7)")
}

// goal is a thrown one.
func goal(d *sample.Dice, depth int) api.Term {
	if depth == 0 || d.Next(6) == 0 {
		return leaf(d)
	}
	if d.Next(6) == 0 {
		return f(":", pick(d, "m", "n", "m", "[]", "_1", "_5", "f(a)"), goal(d, depth-1))
	}
	return f(sample.Throw(d, ",", ",", ";", ";", "->"), goal(d, depth-1), goal(d, depth-1))
}

// clauseTerm is a thrown term, mostly one of a clause.
func clauseTerm(d *sample.Dice) api.Term {
	module := func(t api.Term) api.Term {
		for d.Next(5) == 0 {
			t = f(":", pick(d, "m", "n", "k", "m", "n", "_5", "1", "f(a)"), t)
		}
		return t
	}
	head := pick(d, "p", "p(_5, _2)", "q(_7, f(_7), _1)", "'true'", "!", "(a, b)", "(a :- _1)", "r(1, 2.5)")
	switch d.Next(16) {
	case 0:
		head = v(d.Next(3))
	case 1:
		head = pick(d, "1", "2.5")
	case 2, 3:
		head = f("w", wide(390+d.Next(12)))
	}
	if d.Next(4) == 0 {
		return module(head)
	}
	return module(f(":-", module(head), goal(d, d.Next(4))))
}

// made are all terms of so many nodes of some atomic ones and some functors of
// one or two arguments, and of less.
func made(nodes int, leaves []api.Term, one, two []string) []api.Term {
	rows := [][]api.Term{nil, leaves}
	out := leaves
	for n := 2; n <= nodes; n++ {
		var row []api.Term
		for _, name := range one {
			for _, x := range rows[n-1] {
				row = append(row, f(name, x))
			}
		}
		for left := 1; left < n-1; left++ {
			for _, name := range two {
				for _, x := range rows[left] {
					for _, y := range rows[n-1-left] {
						row = append(row, f(name, x, y))
					}
				}
			}
		}
		rows = append(rows, row)
		out = append(out, row...)
	}
	return out
}

func readAll(l ...string) []api.Term {
	var out []api.Term
	for _, text := range l {
		out = append(out, read(text))
	}
	return out
}

// P11.1: all small goals.
func TestAllSmallGoals(t *testing.T) {
	for _, x := range made(6, readAll("true", "!", "a", "_0", "1"), []string{"call"}, []string{",", ";", "->", ":"}) {
		checkReady(t, x, modelReady(x))
	}
}

// P11.2: all small terms.
func TestAllSmallTerms(t *testing.T) {
	for _, x := range made(6, readAll("a", "_1", "_0", "1"), []string{"f"}, []string{":-", ":"}) {
		checkRead(t, "user", x, modelRead("user", x))
	}
}

// P11.1, P11.3, P11.5.
func TestThrownGoals(t *testing.T) {
	d := sample.Dice(111)
	bodies := 0
	for range 10000 {
		x := goal(&d, d.Next(6))
		checkReady(t, x, modelReady(x))
		b, err := clause.Ready(x)
		if err != nil {
			continue
		}
		bodies++
		checkTerm(t, b, show(modelTerm(b)))
		checkReady(t, modelTerm(b), showBody(b))
	}
	if bodies < 4000 || bodies > 9000 {
		t.Errorf("%d bodies were made", bodies)
	}
}

// P11.2, P11.3, P11.5.
func TestThrownClauses(t *testing.T) {
	d := sample.Dice(112)
	clauses := 0
	for range 10000 {
		x := clauseTerm(&d)
		module := sample.Throw(&d, "user", "m", "")
		checkRead(t, module, x, modelRead(module, x))
		_, c, err := clause.Read(module, x)
		if err != nil {
			continue
		}
		clauses++
		whole := f(":-", c.Head, modelTerm(c.Body))
		checkClause(t, c, api.OK, show(whole))
		checkRead(t, "other", whole, "other: "+showClause(c))
	}
	if clauses < 4000 || clauses > 9000 {
		t.Errorf("%d clauses were made", clauses)
	}
}
