package dcg_test

import (
	"strconv"
	"testing"

	"hornbeam/api"
	"hornbeam/dcg"
	"hornbeam/sample"
	"hornbeam/tree"
)

// Short names for what makes terms and looks at them.
var (
	atom, v, f  = tree.Atom, tree.Var, tree.Of
	read, show  = sample.Read, sample.Show
	short, list = sample.Short, sample.List
	said, sized = sample.Said, sample.Wide
)

// What is said of errors.
var (
	wrongType = sample.WrongType
	failure   = sample.Failure
)

// mostVar is the greatest number of a variable that a rule may have.
const mostVar = 1 << 62

// Balls that many rows tell.
const (
	instantiation = `thrown "instantiation_error"`
	manyArguments = `thrown "representation_error"("max_arity")`
	manyNodes     = `thrown "resource_error"("nodes")`
)

func saidRule(clause api.Term, err error) string {
	return said(show(clause), sample.IsNone(clause), err)
}

func saidBody(goal api.Term, next int, err error) string {
	return said(withNext(show(goal), next), sample.IsNone(goal) && next == 0, err)
}

func withNext(goal string, next int) string { return goal + ", then " + strconv.Itoa(next) }

func checkRule(t *testing.T, x api.Term, want string) {
	t.Helper()
	if got := saidRule(dcg.Rule(x)); got != want {
		t.Errorf("Rule of %s: %s; want %s", short(show(x)), short(got), short(want))
	}
}

func checkBody(t *testing.T, x, from, to api.Term, next int, want string) {
	t.Helper()
	if got := saidBody(dcg.Body(x, from, to, next)); got != want {
		t.Errorf("Body of %s between %s and %s, from %d on: %s; want %s", short(show(x)), short(show(from)), short(show(to)), next, short(got), short(want))
	}
}

// wide is a compound of so many arguments.
func wide(name string, arity int) api.Term {
	t := f(name)
	for range arity {
		t.Args = append(t.Args, atom("x"))
	}
	return t
}
