package parser

import (
	"strings"

	"hornbeam/api"
	"hornbeam/ops"
	"hornbeam/tree"
)

// So much at most have a whole term, and one between commas.
const (
	maxPriority  = 1200
	partPriority = 999
)

// term reads a term of a priority of at most so much.
func (r *reading) term(most int) api.Term {
	left, priority := r.left(most)
	for {
		x, is := r.operator()
		leftSide, rightSide := ops.Sides(x)
		switch {
		case !is || x.Priority > most || priority > leftSide:
			return left
		case x.Type == api.XF || x.Type == api.YF:
			r.pass()
			left = tree.Of(x.Name, left)
		default:
			r.pass()
			left = tree.Of(x.Name, left, r.term(rightSide))
		}
		priority = x.Priority
	}
}

// operator is the infix or postfix operator that is at hand.
func (r *reading) operator() (api.Op, bool) {
	name := r.hand.Text
	if !isName(r.hand) && !isMark(r.hand, ",") && !isMark(r.hand, "|") {
		return api.Op{}, false
	}
	if x, is := r.ops.Infix(name); is {
		return x, true
	}
	return r.ops.Postfix(name)
}

func isName(token api.Token) bool { return token.Kind == api.TName || token.Kind == api.TQuoted }

// left reads a term's left part, and tells its priority.
func (r *reading) left(most int) (api.Term, int) {
	switch token := r.pass(); token.Kind {
	case api.TName, api.TQuoted:
		return r.named(token, most)
	case api.TPunct:
		return r.bracketed(token, most)
	default:
		return r.simple(token), 0
	}
}

// simple is what one token alone stands for.
func (r *reading) simple(token api.Token) api.Term {
	switch token.Kind {
	case api.TInt, api.TFloat:
		return number(token)
	case api.TVar:
		return r.variable(token.Text)
	case api.TString:
		return textAs(r.quotes, token.Text)
	case api.TBack:
		return textAs(api.QCodes, token.Text)
	}
	panic(r.misplaced(token))
}

// bracketed reads what begins with a bracket.
func (r *reading) bracketed(open api.Token, most int) (api.Term, int) {
	switch open.Text {
	case "(":
		t := r.term(maxPriority)
		r.expect(api.TPunct, ")")
		return t, 0
	case "[":
		if r.passes("]") {
			return r.named(api.Token{Text: tree.Empty}, most)
		}
		return r.list(), 0
	case "{":
		if r.passes("}") {
			return r.named(api.Token{Text: tree.Braces}, most)
		}
		t := r.term(maxPriority)
		r.expect(api.TPunct, "}")
		return tree.Of(tree.Braces, t), 0
	}
	panic(r.misplaced(open))
}

// list reads a list behind its bracket.
func (r *reading) list() api.Term {
	elements, end := r.parts(), tree.Atom(tree.Empty)
	if r.passes("|") {
		end = r.term(partPriority)
	}
	r.expect(api.TPunct, "]")
	return tree.List(elements, end)
}

// parts reads terms with commas between them.
func (r *reading) parts() []api.Term {
	out := []api.Term{r.term(partPriority)}
	for r.passes(",") {
		out = add(out, r.term(partPriority))
	}
	return out
}

// named reads what begins with a name, behind it.
func (r *reading) named(name api.Token, most int) (api.Term, int) {
	x, prefix := r.ops.Prefix(name.Text)
	switch {
	case isOpen(r.hand):
		r.pass()
		arguments := r.parts()
		r.expect(api.TPunct, ")")
		return tree.Of(name.Text, arguments...), 0
	case isSignOf(name, r.hand):
		return negative(number(r.pass())), 0
	case prefix && x.Priority <= most && r.begins():
		_, side := ops.Sides(x)
		return tree.Of(name.Text, r.term(side)), x.Priority
	}
	return tree.Atom(name.Text), 0
}

// isOpen tells whether a token opens the arguments of a name ahead of it.
func isOpen(token api.Token) bool { return isMark(token, "(") && !token.Layout }

// isSignOf tells whether a token is the sign of a number behind it.
func isSignOf(sign, behind api.Token) bool {
	isNumber := behind.Kind == api.TInt || behind.Kind == api.TFloat
	return sign.Kind == api.TName && sign.Text == "-" && isNumber && !behind.Layout
}

// begins tells whether the token at hand begins a term, where a prefix operator
// stands ahead of it.
func (r *reading) begins() bool {
	switch {
	case isLast(r.hand):
		return false
	case r.hand.Kind == api.TPunct:
		return strings.Contains("([{", r.hand.Text)
	case !isName(r.hand) || isOpen(r.behind) || isSignOf(r.hand, r.behind):
		return true
	}
	// An operator that must have something ahead of it takes the prefix
	// operator for that.
	_, prefix := r.ops.Prefix(r.hand.Text)
	return prefix || !r.ops.Is(r.hand.Text)
}
