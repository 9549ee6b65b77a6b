package dcg

import (
	"slices"

	"hornbeam/api"
	"hornbeam/ball"
	"hornbeam/term"
	"hornbeam/tree"
)

// rule is the clause of a grammar rule.
func rule(t api.Term, fresh func() api.Term) api.Term {
	if !tree.Is(t, "-->", 2) {
		panic(ball.Type("dcg_rule", renewed(t)))
	}
	head, derived := t.Args[0], t.Args[1]
	from, to := fresh(), fresh()
	if !tree.Is(head, ",", 2) {
		needCallable(head)
		return tree.Of(":-", between(head, from, to), body(derived, from, to, fresh))
	}
	head, pushed := head.Args[0], head.Args[1]
	needCallable(head)
	middle := fresh()
	pushed = endingWith(pushed, middle)
	head = between(head, from, to)
	return tree.Of(":-", head, and(body(derived, from, middle, fresh), equal(to, pushed)))
}

// body is the goal of a grammar's body.
func body(t, from, to api.Term, fresh func() api.Term) api.Term {
	switch {
	case t.Kind == api.Var:
		return tree.Of("phrase", t, from, to)
	case tree.Is(t, ",", 2), tree.Is(t, "->", 2):
		middle := fresh()
		return tree.Of(t.Name, body(t.Args[0], from, middle, fresh), body(t.Args[1], middle, to, fresh))
	case tree.Is(t, ";", 2), tree.Is(t, "|", 2):
		return tree.Of(";", body(t.Args[0], from, to, fresh), body(t.Args[1], from, to, fresh))
	case tree.Is(t, `\+`, 1):
		return and(tree.Of(t.Name, body(t.Args[0], from, fresh(), fresh)), equal(from, to))
	case tree.Is(t, tree.Braces, 0):
		return and(tree.Atom("true"), equal(from, to))
	case tree.Is(t, tree.Braces, 1):
		return and(t.Args[0], equal(from, to))
	case tree.Is(t, "!", 0):
		return and(t, equal(from, to))
	case tree.Is(t, tree.Empty, 0), tree.Is(t, ".", 2):
		return equal(from, endingWith(t, to))
	}
	needCallable(t)
	return between(t, from, to)
}

// needCallable gives up, if a term is no atom and no compound.
func needCallable(t api.Term) {
	switch t.Kind {
	case api.Var:
		panic(ball.Instantiation())
	case api.Integer, api.Float:
		panic(ball.Type("callable", renewed(t)))
	}
}

// between is a nonterminal to which two lists are put. So it is of call, too.
func between(t, from, to api.Term) api.Term {
	args := slices.Concat(t.Args, []api.Term{from, to})
	if len(args) > api.MaxArity {
		panic(ball.Representation("max_arity"))
	}
	return tree.Of(t.Name, args...)
}

// endingWith is a list with something else at its end.
func endingWith(t, end api.Term) api.Term {
	elements, rest, _ := term.Elements(t)
	if !tree.Is(rest, tree.Empty, 0) {
		panic(ball.Type("list", renewed(t)))
	}
	return tree.List(elements, end)
}

func and(a, b api.Term) api.Term { return tree.Of(",", a, b) }

func equal(a, b api.Term) api.Term { return tree.Of("=", a, b) }
