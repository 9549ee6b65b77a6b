package clause_test

import (
	"math"
	"testing"

	"hornbeam/api"
	"hornbeam/clause"
	"hornbeam/sample"
	"hornbeam/tree"
)

// modelCheck is what the chapter asks of Check, where no tree is without an end.
func modelCheck(c api.Clause) api.Errno {
	if !modelMade(c.Body) || countOf(modelTerm(c.Body)) > 4000 || !isTerm(c.Head) {
		return api.ErrArg
	}
	goal := modelTerm(c.Body)
	if countOf(c.Head)+countOf(goal) > 400 {
		return api.ErrClauseBig
	}
	switch sample.Place(c.Head) {
	case "a variable", "a number", ":/2":
		return api.ErrArg
	}
	var met []int
	head, body := renumbered(c.Head, &met), renumbered(goal, &met)
	if show(head) != show(c.Head) || show(body) != show(goal) || c.Vars != len(met) {
		return api.ErrArg
	}
	return api.OK
}

func checkModel(t *testing.T, c api.Clause) {
	t.Helper()
	checkClause(t, c, modelCheck(c), show(f(":-", c.Head, modelTerm(c.Body))))
}

// P11.3: each way in which a clause may be wrong.
func TestCheck(t *testing.T) {
	q := call("q(_1, _2)")
	for _, row := range []struct {
		head string
		body api.Body
		vars int
		want api.Errno
	}{
		{"p(_0, _1)", q, 3, api.OK},
		{"p(_0, _1)", q, 2, api.ErrArg},
		{"p(_0, _1)", q, 4, api.ErrArg},
		{"p(_0, _1)", q, 0, api.ErrArg},
		{"p(_0, _1)", q, -1, api.ErrArg},
		{"p(_0, _1)", q, math.MinInt, api.ErrArg},
		{"p(_0, _1)", q, math.MaxInt, api.ErrArg},
		{"p(_1, _0)", q, 3, api.ErrArg},
		{"p(_1, _2)", q, 2, api.ErrArg},
		{"p(_1, _2)", q, 3, api.ErrArg},
		{"p(_0, _1)", call("q(_1, _3)"), 3, api.ErrArg},
		{"p(_0, _1)", call("q(_1, _3)"), 4, api.ErrArg},
		{"p(_0, _2)", call("q(_1, _0)"), 3, api.ErrArg},
		{"p", q, 2, api.ErrArg},
		{"p", q, 3, api.ErrArg},
		{"p", call("q(_0, _1, _0)"), 2, api.OK},
		{"p", and(call("call(_0)"), when(call("call(_1)"), call("r(_0, _2)"))), 3, api.OK},
		{"p", and(call("call(_1)"), when(call("call(_0)"), call("r(_0, _2)"))), 3, api.ErrArg},
		{"p", yes, 0, api.OK},
		{"p", yes, 1, api.ErrArg},
		{"p(_0)", yes, 1, api.OK},
		{"p(_0)", yes, 0, api.ErrArg},
		{"p(_1)", yes, 1, api.ErrArg},
		{"p(_1)", yes, 2, api.ErrArg},
		{"_0", yes, 1, api.ErrArg},
		{"_0", yes, 0, api.ErrArg},
		{"1", yes, 0, api.ErrArg},
		{"2.5", yes, 0, api.ErrArg},
		{"m : p", yes, 0, api.ErrArg},
		{"m : n : p", cut, 0, api.ErrArg},
		{"_0 : p", yes, 1, api.ErrArg},
		{"m : _0", yes, 1, api.ErrArg},
		{"1 : 2", yes, 0, api.ErrArg},
		{"':'(m)", yes, 0, api.OK},
		{"':'(m, n, p)", yes, 0, api.OK},
		{"':'", yes, 0, api.OK},
		{"a :- b", yes, 0, api.OK},
		{"(m : a) :- b", cut, 0, api.OK},
		{"_0 :- _1", call("call(_0)"), 2, api.OK},
		{"a, b", cut, 0, api.OK},
		{"true", yes, 0, api.OK},
		{"!", cut, 0, api.OK},
		{"[]", in(atom("m"), cut), 0, api.OK},
	} {
		goal := modelTerm(row.body)
		checkClause(t, api.Clause{Head: read(row.head), Body: row.body, Vars: row.vars}, row.want, show(f(":-", read(row.head), goal)))
		checkModel(t, api.Clause{Head: read(row.head), Body: row.body, Vars: row.vars})
	}
}

// P11.3: head and body have at most MaxClause nodes together. A body that Ready
// does not make, and a head that is no term, are told ahead of that, all else
// behind it.
func TestCheckOfManyNodes(t *testing.T) {
	of := func(nodes int) api.Term { return f("w", wide(nodes-1)) }
	for _, row := range []struct {
		head api.Term
		body api.Body
		vars int
		want api.Errno
	}{
		{of(399), yes, 0, api.OK},
		{of(399), cut, 0, api.OK},
		{of(400), yes, 0, api.ErrClauseBig},
		{of(200), callOf(of(200)), 0, api.OK},
		{of(200), callOf(of(201)), 0, api.ErrClauseBig},
		{of(201), callOf(of(200)), 0, api.ErrClauseBig},
		{atom("p"), callOf(of(399)), 0, api.OK},
		{atom("p"), callOf(of(400)), 0, api.ErrClauseBig},
		{atom("p"), callOf(of(api.MaxNodes)), 0, api.ErrClauseBig},
		{of(api.MaxNodes), callOf(of(api.MaxNodes)), 0, api.ErrClauseBig},
		{of(api.MaxNodes), yes, 0, api.ErrClauseBig},
		{of(api.MaxNodes + 1), yes, 0, api.ErrArg},
		{atom("p"), callOf(of(api.MaxNodes + 1)), 0, api.ErrArg},
		{atom("p"), in(atom("m"), callOf(of(397))), 0, api.OK},
		{atom("p"), in(atom("m"), callOf(of(398))), 0, api.ErrClauseBig},
		{of(100), when(callOf(of(100)), callOf(of(100)), callOf(of(98))), 0, api.OK},
		{of(100), when(callOf(of(100)), callOf(of(100)), callOf(of(99))), 0, api.ErrClauseBig},
		{of(100), and(call("call(_0)"), callOf(of(297))), 1, api.OK},
		{of(100), and(call("call(_0)"), callOf(of(298))), 1, api.ErrClauseBig},
		{of(300), callOf(of(200)), 7, api.ErrClauseBig},
		{of(300), callOf(f("g", of(200), v(3))), 0, api.ErrClauseBig},
		{v(0), callOf(of(399)), 1, api.ErrArg},
		{v(0), callOf(of(400)), 1, api.ErrClauseBig},
		{tree.Int(1), callOf(of(399)), 0, api.ErrArg},
		{tree.Int(1), callOf(of(400)), 0, api.ErrClauseBig},
		{f(":", atom("m"), of(200)), callOf(of(198)), 0, api.ErrArg},
		{f(":", atom("m"), of(200)), callOf(of(199)), 0, api.ErrClauseBig},
		{of(500), callOf(v(0)), 1, api.ErrArg},
		{of(500), or(when(yes, yes), yes), 0, api.ErrArg},
		{f("p", of(500), api.Term{}), yes, 0, api.ErrArg},
		{f("p", of(500), tree.Digits("007")), callOf(of(500)), 0, api.ErrArg},
	} {
		c := api.Clause{Head: row.head, Body: row.body, Vars: row.vars}
		checkClause(t, c, row.want, show(f(":-", c.Head, modelTerm(c.Body))))
		checkModel(t, c)
	}
}

// P11.3: all clauses of some heads and bodies, with as many variables and with
// more and less.
func TestAllSmallClauses(t *testing.T) {
	heads := append(readAll("p", "p(_0)", "p(_1)", "p(_0, _0)", "p(_0, _1)", "p(_1, _0)", "p(f(_0), _1, _2)", "_0", "1", "m : p", "m : p(_0)", "_0 : p", "(p(_0) :- a)", "(a, _0)", "'true'"), api.Term{})
	bodies := []api.Body{
		{}, yes, cut, call("a"), call("q(_0)"), call("q(_1)"), call("q(_1, _0)"), call("q(_0, _1)"), call("q(_2)"), call("call(_0)"), call("call(_1 : a)"), callOf(v(0)), call("true"),
		and(call("q(_0)"), call("q(_1)")), and(call("q(_1)"), call("q(_0)")), or(call("call(_0)"), cut), when(call("q(_0)"), yes), when(call("q(_1)"), call("q(_2)"), call("q(_0)")),
		in(atom("m"), call("q(_0)")), in(atom("m"), call("call(_1)")), in(v(0), call("q(_0)")), or(when(yes, yes), yes),
	}
	count := 0
	for _, head := range heads {
		for _, b := range bodies {
			for vars := -1; vars <= 4; vars++ {
				c := api.Clause{Head: head, Body: b, Vars: vars}
				if modelMade(b) {
					checkModel(t, c)
				} else {
					checkClause(t, c, api.ErrArg, "")
				}
				if clause.Check(c) == api.OK {
					count++
				}
			}
		}
	}
	if count < 100 {
		t.Errorf("%d clauses are ones that Read makes", count)
	}
}

// P11.3: clauses that Read made, changed in one place.
func TestChangedClauses(t *testing.T) {
	d := sample.Dice(114)
	same := 0
	for range 10000 {
		_, c, err := clause.Read("user", clauseTerm(&d))
		if err != nil {
			continue
		}
		switch d.Next(5) {
		case 0:
			c.Vars += sample.Throw(&d, -1, 0, 1)
		case 1:
			c.Body = change(&d, c.Body)
		case 2:
			c.Head = f(sample.Throw(&d, ":", "p"), atom("m"), c.Head)
		case 3:
			c.Head = f("p", v(d.Next(3)), c.Head)
		case 4:
			c.Head = sample.Throw(&d, v(0), tree.Int(3), atom("p"), c.Head)
		}
		if !modelMade(c.Body) {
			checkClause(t, c, api.ErrArg, "")
			continue
		}
		checkModel(t, c)
		if clause.Check(c) == api.OK {
			same++
		}
	}
	if same < 1000 || same > 5000 {
		t.Errorf("%d clauses are ones that Read makes", same)
	}
}
