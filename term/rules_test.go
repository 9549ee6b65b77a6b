package term_test

import (
	"testing"

	"hornbeam/api"
	"hornbeam/sample"
	"hornbeam/term"
)

// termCall is a call of so many terms, in the order of its arguments; none
// tells whether what it answers beside its error is none.
type termCall struct {
	name  string
	terms int
	call  func(l []api.Term) (answered []api.Term, none bool, e api.Errno)
}

func bindsOf(l ...api.Term) []api.Bind {
	var out []api.Bind
	for i, t := range l {
		out = append(out, api.Bind{Var: i, Term: t})
	}
	return out
}

func termsOf(l []api.Bind) []api.Term {
	var out []api.Term
	for _, b := range l {
		out = append(out, b.Term)
	}
	return out
}

// calls are those that R7 holds of.
func calls() []termCall {
	lists := func(l []api.Term, e api.Errno) ([]api.Term, bool, api.Errno) { return l, len(l) == 0, e }
	one := func(t api.Term, e api.Errno) ([]api.Term, bool, api.Errno) { return []api.Term{t}, isNone(t), e }
	return []termCall{
		{"Compare", 2, func(l []api.Term) ([]api.Term, bool, api.Errno) {
			way, e := term.Compare(l[0], l[1])
			return nil, way == 0, e
		}},
		{"Variables", 3, func(l []api.Term) ([]api.Term, bool, api.Errno) {
			vars, e := term.Variables(l...)
			return nil, len(vars) == 0, e
		}},
		{"Plain", 3, func(l []api.Term) ([]api.Term, bool, api.Errno) { return lists(term.Plain(l...)) }},
		{"Variant", 2, func(l []api.Term) ([]api.Term, bool, api.Errno) {
			is, e := term.Variant(l[0], l[1])
			return nil, !is, e
		}},
		{"Put", 3, func(l []api.Term) ([]api.Term, bool, api.Errno) { return one(term.Put(l[0], bindsOf(l[1:]...))) }},
		{"List", 3, func(l []api.Term) ([]api.Term, bool, api.Errno) { return one(term.List(l[:2:2], l[2])) }},
		{"Elements", 1, func(l []api.Term) ([]api.Term, bool, api.Errno) {
			out, end, e := term.Elements(l[0])
			return append(out[:len(out):len(out)], end), len(out) == 0 && isNone(end), e
		}},
		{"Sort", 3, func(l []api.Term) ([]api.Term, bool, api.Errno) { return lists(term.Sort(l, false)) }},
		{"Sort once", 3, func(l []api.Term) ([]api.Term, bool, api.Errno) { return lists(term.Sort(l, true)) }},
		{"KeySort", 3, func(l []api.Term) ([]api.Term, bool, api.Errno) { return lists(term.KeySort(l)) }},
		{"Match", 2, func(l []api.Term) ([]api.Term, bool, api.Errno) {
			binds, is, e := term.Match(l[0], l[1])
			return termsOf(binds), len(binds) == 0 && !is, e
		}},
	}
}

// R7: in each place each tree that may not be; and with another one behind it.
func TestTermsThatMayNotBe(t *testing.T) {
	for _, c := range calls() {
		for i := range c.terms {
			for want, x := range wrong() {
				l := []api.Term{f("f", v(0)), f("f", v(1)), f("f", v(2))}[:c.terms]
				l[i] = x
				checkWrong(t, c, l, want)
				for j := i + 1; j < c.terms; j++ {
					for _, y := range wrong() {
						l[j] = y
						checkWrong(t, c, l, want)
					}
				}
			}
		}
	}
}

func checkWrong(t *testing.T, c termCall, l []api.Term, want api.Errno) {
	t.Helper()
	if _, none, e := c.call(l); e != want || !none {
		t.Errorf("%s: %v, nothing beside it: %v; want %v", c.name, e, none, want)
	}
}

// R7 is ahead of what the calls say themselves.
func TestTermsThatMayNotBeAreToldFirst(t *testing.T) {
	bad := atom("\xff")
	if l, e := term.KeySort([]api.Term{atom("a"), bad}); len(l) != 0 || e != api.ErrTermName {
		t.Errorf("KeySort:%s, %v", show(l...), e)
	}
	got, e := term.List([]api.Term{wide(4000), wide(4000)}, bad)
	checkNoTerm(t, "List", got, e, api.ErrTermName)
	if _, is, e := term.Match(atom("a"), bad); is || e != api.ErrTermName {
		t.Errorf("Match: %v, %v", is, e)
	}
}

// shared are terms that hold variables, pairs and lists, so that each call has
// something to hand out.
func shared() []api.Term {
	g := f("g", atom("c"), v(4))
	return []api.Term{pair(f("f", v(0), v(1), v(0)), g), pair(f("f", g, num("3"), g), g), pair(list(v(0), g, atom("b"), g), float(2))}
}

// R4: what is handed in stays, and no two lists share memory.
func TestMemoryIsNotShared(t *testing.T) {
	for _, c := range calls() {
		for _, plain := range [][]api.Term{
			shared(), {shared()[2], shared()[2], shared()[2]}, {list(atom("[]"), shared()...), v(1), shared()[0]}, {v(0), shared()[1], atom("a")}, {pair(v(0), v(0)), pair(atom("a"), atom("a")), pair(v(1), atom("b"))}, {atom("a"), atom("a"), num("2")}, {f("f", v(0), v(1), v(2)), f("f", shared()...), v(3)},
		} {
			checkMemory(t, c, plain[:c.terms])
		}
	}
}

func checkMemory(t *testing.T, c termCall, plain []api.Term) {
	t.Helper()
	given := f("all", plain...)
	l := sample.Spare(given).Args
	met := map[*api.Term]int{}
	sample.Places(l, func(p *api.Term) { met[p] = 1 })
	answered, _, _ := c.call(l)
	answered = answered[:len(answered):len(answered)]
	sample.Places(answered, func(p *api.Term) {
		if met[p] != 0 {
			t.Errorf("%s of%s: a list is shared", c.name, show(plain...))
		}
		met[p] = 2
	})
	sample.Places(answered, func(p *api.Term) { *p = api.Term{} })
	if !sample.IsSpare(api.Term{Kind: api.Compound, Name: "all", Args: l}, given) {
		t.Errorf("%s of%s: what was handed in is another one", c.name, show(plain...))
	}
}

// R5: asked again, all tell the same.
func TestAskedAgainTheSameIsTold(t *testing.T) {
	for _, c := range calls() {
		first, none, e := c.call(shared()[:c.terms])
		for range 20 {
			if again, noneAgain, eAgain := c.call(shared()[:c.terms]); !equalLists(again, first) || none != noneAgain || e != eAgain {
				t.Errorf("%s tells another thing when it is asked again", c.name)
			}
		}
	}
}
