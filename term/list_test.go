package term_test

import (
	"testing"

	"hornbeam/api"
	"hornbeam/term"
)

// P2.6.
func TestList(t *testing.T) {
	a, b, none := atom("a"), atom("b"), atom("[]")
	for _, c := range []struct {
		l         []api.Term
		end, want api.Term
	}{
		{[]api.Term{a, b}, none, f(".", a, f(".", b, none))}, {nil, none, none}, {nil, v(4), v(4)}, {[]api.Term{}, num("3"), num("3")}, {[]api.Term{a}, v(4), f(".", a, v(4))},
		{[]api.Term{v(1), a, v(1)}, f("f", v(1)), f(".", v(1), f(".", a, f(".", v(1), f("f", v(1)))))}, {[]api.Term{f("f", a)}, list(none, b), list(none, f("f", a), b)},
		{nil, wide(api.MaxNodes), wide(api.MaxNodes)},
	} {
		got, e := term.List(c.l, c.end)
		checkTerm(t, "List", got, e, c.want)
	}
}

// Each element counts its nodes, and one.
func TestListAtTheLimit(t *testing.T) {
	many := func(n int) []api.Term {
		out := make([]api.Term, n)
		for i := range out {
			out[i] = num("7")
		}
		return out
	}
	for _, c := range []struct {
		name string
		l    []api.Term
		end  api.Term
		fits bool
	}{
		{"1999 and one", many(1999), atom("[]"), true}, {"1999 and two", many(1999), f("f", v(0)), true}, {"1999 and three", many(1999), wide(3), false}, {"2000 and one", many(2000), atom("[]"), false},
		{"many", many(100000), atom("[]"), false}, {"one great one", []api.Term{wide(3998)}, v(0), true}, {"a greater one", []api.Term{wide(3999)}, v(0), false}, {"a great end", many(1), wide(3998), true}, {"a greater end", many(1), wide(3999), false},
		{"two great ones", []api.Term{wide(2000), wide(1997)}, v(0), true}, {"two greater ones", []api.Term{wide(2000), wide(1998)}, v(0), false},
	} {
		got, e := term.List(c.l, c.end)
		if c.fits {
			checkTerm(t, c.name, got, e, list(c.end, c.l...))
		} else {
			checkNoTerm(t, c.name, got, e, api.ErrTermNodes)
		}
	}
}

func TestElements(t *testing.T) {
	a, b, none := atom("a"), atom("b"), atom("[]")
	for _, c := range []struct {
		t    api.Term
		want []api.Term
		end  api.Term
	}{
		{list(v(4), a, b), []api.Term{a, b}, v(4)}, {list(none, a, b), []api.Term{a, b}, none}, {none, nil, none}, {v(2), nil, v(2)}, {num("-3"), nil, num("-3")}, {float(2), nil, float(2)},
		{list(a, a), []api.Term{a}, a}, {atom("."), nil, atom(".")}, {f(".", a), nil, f(".", a)}, {f(".", a, b, none), nil, f(".", a, b, none)}, {f("f", a, none), nil, f("f", a, none)}, {f("..", a, none), nil, f("..", a, none)}, {f("[]", a, none), nil, f("[]", a, none)},
		{list(f(".", a), b), []api.Term{b}, f(".", a)}, {list(f("f", a, none), b, b), []api.Term{b, b}, f("f", a, none)}, {list(none, list(none, a), list(v(1), b)), []api.Term{list(none, a), list(v(1), b)}, none},
	} {
		got, end, e := term.Elements(c.t)
		if e != api.OK || !equalLists(got, c.want) || !equal(end, c.end) {
			t.Errorf("Elements of%s:%s and%s, %v", show(c.t), show(got...), show(end), e)
		}
	}
	long := make([]api.Term, 1999)
	for i := range long {
		long[i] = v(i)
	}
	if got, end, e := term.Elements(list(f("f", a), long...)); e != api.OK || !equalLists(got, long) || !equal(end, f("f", a)) {
		t.Errorf("Elements of a term of MaxNodes nodes: %d and%s, %v", len(got), show(end), e)
	}
}
