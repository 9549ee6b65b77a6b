package clause_test

import (
	"slices"
	"testing"

	"hornbeam/api"
	"hornbeam/clause"
	"hornbeam/sample"
)

// markBody stands in the spare room of a body's parts.
const markBody = 78

// holding is what is handed in or answered: terms and bodies.
type holding struct {
	terms  []api.Term
	bodies []api.Body
}

func showHolding(h holding) string {
	out := sample.ShowAll(h.terms)
	for _, b := range h.bodies {
		out += "; " + showBody(b)
	}
	return short(out)
}

// spareBody is a body whose every list has spare room with marks in it.
func spareBody(b api.Body) api.Body {
	l := make([]api.Body, len(b.Sub), len(b.Sub)+2)
	for i, sub := range b.Sub {
		l[i] = spareBody(sub)
	}
	for i := len(l); i < cap(l); i++ {
		l[:cap(l)][i] = api.Body{Kind: markBody}
	}
	return api.Body{Kind: b.Kind, Term: sample.Spare(b.Term), Sub: l}
}

// isSpareBody tells whether got is spareBody of b still.
func isSpareBody(got, b api.Body) bool {
	if got.Kind != b.Kind || !sample.IsSpare(got.Term, b.Term) || !slices.EqualFunc(got.Sub, b.Sub, isSpareBody) {
		return false
	}
	for _, m := range got.Sub[len(got.Sub):cap(got.Sub)] {
		if m.Kind != markBody || !isNone(m.Term) || m.Sub != nil {
			return false
		}
	}
	return true
}

// places tells where the parts of all lists stand.
func places(h holding, term func(p *api.Term), body func(p *api.Body)) {
	for _, x := range h.terms {
		sample.Places(x.Args, term)
	}
	for _, b := range h.bodies {
		places(holding{terms: []api.Term{b.Term}, bodies: b.Sub}, term, body)
		for i := range b.Sub[:cap(b.Sub)] {
			body(&b.Sub[:cap(b.Sub)][i])
		}
	}
}

// checkMemory makes a call with what has spare room: that stays, and no two lists
// of the answer and of it share memory. R5: so it is told again.
func checkMemory(t *testing.T, plain holding, call func(in holding) holding) {
	t.Helper()
	var in holding
	for _, x := range plain.terms {
		in.terms = append(in.terms, sample.Spare(x))
	}
	for _, b := range plain.bodies {
		in.bodies = append(in.bodies, spareBody(b))
	}
	out := call(in)
	first := showHolding(out)
	terms, bodies := map[*api.Term]int{}, map[*api.Body]int{}
	for _, h := range []holding{in, out} {
		places(h, func(p *api.Term) { terms[p]++ }, func(p *api.Body) { bodies[p]++ })
	}
	for _, count := range terms {
		if count > 1 {
			t.Errorf("of %s: a list of terms is shared", showHolding(plain))
		}
	}
	for _, count := range bodies {
		if count > 1 {
			t.Errorf("of %s: a list of bodies is shared", showHolding(plain))
		}
	}
	places(out, func(p *api.Term) { *p = atom("spoilt") }, func(p *api.Body) { *p = cut })
	if !slices.EqualFunc(in.terms, plain.terms, sample.IsSpare) || !slices.EqualFunc(in.bodies, plain.bodies, isSpareBody) {
		t.Errorf("%s is changed", showHolding(plain))
	}
	if again := showHolding(call(in)); again != first {
		t.Errorf("of %s: %s, then %s", showHolding(plain), first, again)
	}
}

// thrown is a ball's term, if an error is one.
func thrown(err error) []api.Term {
	if ball, is := err.(*api.Ball); is {
		return []api.Term{ball.Term}
	}
	return nil
}

func ready(in holding) holding {
	b, err := clause.Ready(in.terms[0])
	return holding{thrown(err), []api.Body{b}}
}

func reading(in holding) holding {
	_, c, err := clause.Read("user", in.terms[0])
	return holding{append(thrown(err), c.Head), []api.Body{c.Body}}
}

func telling(in holding) holding {
	out, _ := clause.Term(in.bodies[0])
	return holding{terms: []api.Term{out}}
}

// wholes are what Whole tells of a clause, behind what Check and Key leave as it is.
func wholes(in holding) holding {
	vars := countVariables(in.terms[0], modelTerm(in.bodies[0]))
	c := api.Clause{Head: in.terms[0], Body: in.bodies[0], Vars: vars}
	clause.Check(c)
	clause.Key(c.Head)
	out, _ := clause.Whole(c)
	return holding{terms: []api.Term{out}}
}

func countVariables(l ...api.Term) int {
	var met []int
	for _, x := range l {
		renumbered(x, &met)
	}
	return len(met)
}

// R4, R5.
func TestMemory(t *testing.T) {
	d := sample.Dice(115)
	for range 1500 {
		x := goal(&d, d.Next(5))
		checkMemory(t, holding{terms: []api.Term{x}}, ready)
		if b, err := clause.Ready(x); err == nil {
			checkMemory(t, holding{bodies: []api.Body{b}}, telling)
			checkMemory(t, holding{bodies: []api.Body{change(&d, b)}}, telling)
		}
		x = clauseTerm(&d)
		checkMemory(t, holding{terms: []api.Term{x}}, reading)
		if _, c, err := clause.Read("user", x); err == nil {
			checkMemory(t, holding{terms: []api.Term{c.Head}, bodies: []api.Body{c.Body}}, wholes)
			checkMemory(t, holding{terms: []api.Term{f("p", c.Head)}, bodies: []api.Body{c.Body}}, wholes)
			checkMemory(t, holding{terms: []api.Term{f(":", atom("m"), c.Head)}, bodies: []api.Body{c.Body}}, wholes)
		}
	}
	for _, text := range []string{"f(_0, g(_0))", "f(a) : g(b)", "_1 : f(a)", "f(g(a)), 1", "f(a) : p :- b", "p :- f(a), 1", "p(f(a)) :- m : q(f(a))", "_2 : p :- f(a)"} {
		checkMemory(t, holding{terms: []api.Term{read(text)}}, ready)
		checkMemory(t, holding{terms: []api.Term{read(text)}}, reading)
	}
	checkMemory(t, holding{terms: []api.Term{wide(api.MaxNodes)}}, ready)
	checkMemory(t, holding{terms: []api.Term{wide(api.MaxNodes)}}, reading)
	checkMemory(t, holding{bodies: []api.Body{callOf(wide(api.MaxNodes))}}, telling)
}

// A list without elements may be nil or not: a body with such lists is the same.
func TestEmptyLists(t *testing.T) {
	none := []api.Body{}
	for _, b := range []api.Body{{Kind: api.BTrue, Sub: none}, {Kind: api.BCut, Term: api.Term{Args: []api.Term{}}, Sub: none}, {Kind: api.BCall, Term: api.Term{Kind: api.Atom, Name: "a", Args: []api.Term{}}, Sub: none}} {
		want := show(modelTerm(b))
		checkTerm(t, b, want)
		checkClause(t, api.Clause{Head: atom("p"), Body: b}, api.OK, show(f(":-", atom("p"), modelTerm(b))))
	}
}
