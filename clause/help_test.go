package clause_test

import (
	"strconv"
	"strings"
	"testing"

	"hornbeam/api"
	"hornbeam/clause"
	"hornbeam/sample"
	"hornbeam/term"
	"hornbeam/tree"
)

// Short names for what makes terms and looks at them.
var (
	atom, v, f   = tree.Atom, tree.Var, tree.Of
	read, show   = sample.Read, sample.Show
	said, short  = sample.Said, sample.Short
	failure      = sample.Failure
	wrongType    = sample.WrongType
	wide, isNone = sample.Wide, sample.IsNone
)

// Balls that many rows tell.
const (
	instantiation = `thrown "instantiation_error"`
	manyNodes     = `thrown "resource_error"("nodes")`
	bigClause     = `thrown "resource_error"("clause")`
)

// Bodies without parts.
var (
	yes = api.Body{Kind: api.BTrue}
	cut = api.Body{Kind: api.BCut}
)

func callOf(t api.Term) api.Body { return api.Body{Kind: api.BCall, Term: t} }

func call(goal string) api.Body { return callOf(read(goal)) }

func and(a, b api.Body) api.Body { return api.Body{Kind: api.BAnd, Sub: []api.Body{a, b}} }

func or(a, b api.Body) api.Body { return api.Body{Kind: api.BOr, Sub: []api.Body{a, b}} }

func when(l ...api.Body) api.Body { return api.Body{Kind: api.BIf, Sub: l} }

func in(module api.Term, b api.Body) api.Body {
	return api.Body{Kind: api.BModule, Term: module, Sub: []api.Body{b}}
}

func isTerm(t api.Term) bool { return term.Check(t) == api.OK }

// showBody is a body as text; what its kind does not use is shown too.
func showBody(b api.Body) string {
	out := "kind " + strconv.Itoa(b.Kind)
	if names := [...]string{"none", "true", "cut", "call", "and", "or", "if", "module"}; b.Kind >= 0 && b.Kind < len(names) {
		out = names[b.Kind]
	}
	if !isNone(b.Term) {
		out += " " + show(b.Term)
	}
	var parts []string
	for _, sub := range b.Sub {
		parts = append(parts, showBody(sub))
	}
	if len(parts) > 0 {
		out += "(" + strings.Join(parts, ", ") + ")"
	}
	return out
}

func isNoBody(b api.Body) bool { return b.Kind == 0 && isNone(b.Term) && len(b.Sub) == 0 }

func showClause(c api.Clause) string {
	return show(c.Head) + " :- " + showBody(c.Body) + ", " + strconv.Itoa(c.Vars) + " variables"
}

// saidReady is what Ready answers, and so on.
func saidReady(b api.Body, err error) string { return said(showBody(b), isNoBody(b), err) }

func saidRead(module string, c api.Clause, err error) string {
	isNothing := module == "" && isNone(c.Head) && isNoBody(c.Body) && c.Vars == 0
	return said(module+": "+showClause(c), isNothing, err)
}

func saidTerm(t api.Term, e api.Errno) string { return said(show(t), isNone(t), errorOf(e)) }

func saidKey(name string, arity int, e api.Errno) string {
	return said(name+"/"+strconv.Itoa(arity), name == "" && arity == 0, errorOf(e))
}

func errorOf(e api.Errno) error {
	if e == api.OK {
		return nil
	}
	return e
}

func checkReady(t *testing.T, goal api.Term, want string) {
	t.Helper()
	if got := saidReady(clause.Ready(goal)); got != want {
		t.Errorf("Ready of %s: %s; want %s", short(show(goal)), short(got), short(want))
	}
}

func checkRead(t *testing.T, module string, x api.Term, want string) {
	t.Helper()
	if got := saidRead(clause.Read(module, x)); got != want {
		t.Errorf("Read of %s: %s: %s; want %s", module, short(show(x)), short(got), short(want))
	}
}

func checkTerm(t *testing.T, b api.Body, want string) {
	t.Helper()
	if got := saidTerm(clause.Term(b)); got != want {
		t.Errorf("Term of %s: %s; want %s", short(showBody(b)), short(got), short(want))
	}
}

// checkClause checks what Check and Whole tell of a clause: the same error, or
// the term that is wanted.
func checkClause(t *testing.T, c api.Clause, e api.Errno, whole string) {
	t.Helper()
	if e != api.OK {
		whole = failure(e)
	}
	if got := clause.Check(c); got != e {
		t.Errorf("Check of %s: %v; want %v", short(showClause(c)), got, e)
	}
	if got := saidTerm(clause.Whole(c)); got != whole {
		t.Errorf("Whole of %s: %s; want %s", short(showClause(c)), short(got), short(whole))
	}
}

// pick is one of a list that is thrown.
func pick(d *sample.Dice, l ...string) api.Term { return read(sample.Throw(d, l...)) }
