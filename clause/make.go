package clause

import (
	"slices"

	"hornbeam/api"
	"hornbeam/ball"
	"hornbeam/term"
	"hornbeam/tree"
)

// read is the module and the clause of a term. It gives up by the ball that
// says what is wrong.
func read(module string, t api.Term) (string, api.Clause) {
	module, t = stripped(module, t)
	head, goal := t, tree.Atom("true")
	if tree.Is(t, ":-", 2) {
		head, goal = t.Args[0], t.Args[1]
	}
	module, head = stripped(module, head)
	needCallable(head)
	b := bodyOf(goal)
	if term.Nodes(head)+nodes(b) > api.MaxClause {
		panic(ball.Resource("clause"))
	}
	return module, numbered(head, goal)
}

// stripped is the innermost of the modules that stand ahead of a term, and the
// term.
func stripped(module string, t api.Term) (string, api.Term) {
	for tree.Is(t, ":", 2) {
		m := t.Args[0]
		switch m.Kind {
		case api.Atom:
			module, t = m.Name, t.Args[1]
		case api.Var:
			panic(ball.Instantiation())
		default:
			panic(ball.Type("atom", m))
		}
	}
	return module, t
}

// needCallable gives up, if a term is no atom and no compound.
func needCallable(t api.Term) {
	switch {
	case t.Kind == api.Var:
		panic(ball.Instantiation())
	case isNumber(t):
		panic(ball.Type("callable", t))
	}
}

// numbered is the clause of a head and a goal from which one can be made.
func numbered(head, goal api.Term) api.Clause {
	plain, _ := term.Plain(head, goal)
	vars, _ := term.Variables(plain...)
	return api.Clause{Head: plain[0], Body: bodyOf(plain[1]), Vars: len(vars)}
}

// bodyOf is the body of a goal; it keeps the goal's parts.
func bodyOf(goal api.Term) api.Body { return body(goal, goal) }

// body is that of a goal, or of a part of it. It gives up by a ball of the whole
// goal, if there is none.
func body(t, whole api.Term) api.Body {
	of := func(kind int, parts ...api.Term) api.Body {
		b := api.Body{Kind: kind}
		for _, part := range parts {
			b.Sub = append(b.Sub, body(part, whole))
		}
		return b
	}
	switch {
	case t.Kind == api.Var:
		return called(t)
	case isNumber(t):
		panic(ball.Type("callable", whole))
	case tree.Is(t, "true", 0):
		return of(api.BTrue)
	case tree.Is(t, "!", 0):
		return of(api.BCut)
	case tree.Is(t, ",", 2):
		return of(api.BAnd, t.Args...)
	case tree.Is(t, ";", 2) && tree.Is(t.Args[0], "->", 2):
		return of(api.BIf, slices.Concat(t.Args[0].Args, t.Args[1:])...)
	case tree.Is(t, ";", 2):
		return of(api.BOr, t.Args...)
	case tree.Is(t, "->", 2):
		return of(api.BIf, t.Args...)
	case tree.Is(t, ":", 2):
		return inModule(t, whole)
	}
	return api.Body{Kind: api.BCall, Term: t}
}

// inModule is the body of a module and what is run in it. Where one of them is
// known only when it is run, it is called.
func inModule(t, whole api.Term) api.Body {
	module, goal := t.Args[0], t.Args[1]
	switch {
	case module.Kind == api.Atom && goal.Kind != api.Var:
		return api.Body{Kind: api.BModule, Term: module, Sub: []api.Body{body(goal, whole)}}
	case (module.Kind == api.Atom || module.Kind == api.Var) && !isNumber(goal):
		return called(t)
	}
	panic(ball.Type("callable", whole))
}

// called is the body of what is run as call of it.
func called(t api.Term) api.Body { return api.Body{Kind: api.BCall, Term: tree.Of("call", t)} }

func isNumber(t api.Term) bool { return t.Kind == api.Integer || t.Kind == api.Float }
