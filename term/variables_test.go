package term_test

import (
	"math"
	"slices"
	"testing"

	"hornbeam/api"
	"hornbeam/term"
)

// P2.4.
func TestVariables(t *testing.T) {
	for _, c := range []struct {
		l    []api.Term
		want []int
	}{
		{nil, nil}, {[]api.Term{atom("a"), num("1"), float(1), f("f", atom("b"))}, nil}, {[]api.Term{v(0)}, []int{0}}, {[]api.Term{f("f", v(7), v(3), v(7))}, []int{7, 3}},
		{[]api.Term{f("f", v(2), f("g", v(5), v(2)), v(0)), v(5), v(9), f("h", v(0), v(1))}, []int{2, 5, 0, 9, 1}}, {[]api.Term{v(math.MaxInt), v(0), v(math.MaxInt)}, []int{math.MaxInt, 0}}, {[]api.Term{v(1), v(1)}, []int{1}},
	} {
		if got, e := term.Variables(c.l...); e != api.OK || !slices.Equal(got, c.want) {
			t.Errorf("Variables of%s: %v, %v; want %v", show(c.l...), got, e, c.want)
		}
	}
}

func TestPlain(t *testing.T) {
	for _, c := range []struct{ l, want []api.Term }{
		{nil, nil}, {[]api.Term{f("f", v(7), v(3), v(7))}, []api.Term{f("f", v(0), v(1), v(0))}}, {[]api.Term{v(0)}, []api.Term{v(0)}}, {[]api.Term{v(1), v(0)}, []api.Term{v(0), v(1)}}, {[]api.Term{v(math.MaxInt)}, []api.Term{v(0)}},
		{[]api.Term{f("f", v(2), f("g", v(5), v(2)), v(0)), num("5"), v(5), v(9), f("h", v(0), v(1))}, []api.Term{f("f", v(0), f("g", v(1), v(0)), v(2)), num("5"), v(1), v(3), f("h", v(2), v(4))}},
		{[]api.Term{wide(api.MaxNodes), atom("a"), float(3)}, []api.Term{wide(api.MaxNodes), atom("a"), float(3)}},
	} {
		if got, e := term.Plain(c.l...); e != api.OK || !equalLists(got, c.want) {
			t.Errorf("Plain of%s:%s, %v; want%s", show(c.l...), show(got...), e, show(c.want...))
		}
	}
}

func TestVariantThatIsTold(t *testing.T) {
	a := atom("a")
	for _, c := range []struct {
		a, b api.Term
		want bool
	}{
		{v(0), v(7), true}, {f("f", v(0), v(1)), f("f", v(1), v(0)), true}, {f("f", v(0), v(0)), f("f", v(5), v(5)), true}, {f("f", v(0), v(1)), f("f", v(5), v(5)), false}, {f("f", v(5), v(5)), f("f", v(0), v(1)), false},
		{f("f", v(0), v(1), v(0)), f("f", v(1), v(0), v(1)), true}, {f("f", v(0), v(1), v(0)), f("f", v(1), v(0), v(0)), false}, {f("f", v(0), v(1), v(0)), f("f", v(0), v(1), v(2)), false}, {f("f", v(0), v(1), v(2)), f("f", v(0), v(1), v(0)), false},
		{v(0), a, false}, {a, v(0), false}, {a, a, true}, {a, atom("b"), false}, {num("1"), float(1), false}, {num("1"), num("1"), true}, {num("1"), num("2"), false}, {float(1), float(1), true}, {float(1), float(2), false},
		{f("f", a), f("g", a), false}, {f("f", a), f("f", a, a), false}, {f("f", v(1), a), f("f", v(2), a), true}, {f("f", f("g", v(3)), v(4)), f("f", f("g", v(4)), v(3)), true}, {f("f", v(1)), f("f", f("g", v(1))), false},
		{wide(api.MaxNodes), wide(api.MaxNodes), true}, {f("f", make64()...), f("f", make64()...), true},
	} {
		if got, e := term.Variant(c.a, c.b); got != c.want || e != api.OK {
			t.Errorf("Variant of%s: %v, %v", show(c.a, c.b), got, e)
		}
	}
}

// put is Put, done by hand.
func put(t api.Term, l []api.Bind) api.Term {
	for _, b := range l {
		if t.Kind == api.Var && t.Var == b.Var {
			return b.Term
		}
	}
	t.Args = slices.Clone(t.Args)
	for i := range t.Args {
		t.Args[i] = put(t.Args[i], l)
	}
	return t
}

// Variables of the dice are 0 to 3: each way to give them other numbers is
// tried.
func TestVariantTriesAllWays(t *testing.T) {
	d, held := dice(7), 0
	var ways [][]api.Bind
	for n := range 256 {
		way := []api.Bind{{Var: 0, Term: v(n & 3)}, {Var: 1, Term: v(n >> 2 & 3)}, {Var: 2, Term: v(n >> 4 & 3)}, {Var: 3, Term: v(n >> 6)}}
		if vars, _ := term.Variables(way[0].Term, way[1].Term, way[2].Term, way[3].Term); len(vars) == 4 {
			ways = append(ways, way)
		}
	}
	for range 3000 {
		a, b := d.term(2), d.term(2)
		if d.next(3) == 0 {
			b = put(a, []api.Bind{{Var: d.next(4), Term: v(d.next(4))}, {Var: d.next(4), Term: v(d.next(4))}})
		}
		want := slices.ContainsFunc(ways, func(way []api.Bind) bool { return equal(put(b, way), a) })
		if want {
			held++
		}
		if got, e := term.Variant(a, b); got != want || e != api.OK {
			t.Errorf("Variant of%s: %v, %v", show(a, b), got, e)
		}
	}
	if len(ways) != 24 || held < 300 || held > 2700 {
		t.Errorf("the test tells too little: %d ways, %d held", len(ways), held)
	}
}

// P2.5.
func TestPut(t *testing.T) {
	x, a := f("f", v(7), v(3), v(7)), atom("a")
	for _, c := range []struct {
		t    api.Term
		l    []api.Bind
		want api.Term
	}{
		{x, nil, x}, {x, []api.Bind{}, x}, {x, []api.Bind{{Var: 7, Term: v(3)}, {Var: 3, Term: a}}, f("f", v(3), a, v(3))}, {x, []api.Bind{{Var: 7, Term: f("g", v(7), v(3))}}, f("f", f("g", v(7), v(3)), v(3), f("g", v(7), v(3)))},
		{x, []api.Bind{{Var: 3, Term: v(7)}, {Var: 7, Term: v(3)}}, f("f", v(3), v(7), v(3))}, {x, []api.Bind{{Var: 0, Term: a}, {Var: math.MaxInt, Term: a}}, x}, {v(0), []api.Bind{{Var: 0, Term: f("f", v(0))}}, f("f", v(0))}, {v(1), []api.Bind{{Var: 0, Term: a}}, v(1)},
		{a, []api.Bind{{Var: 0, Term: wide(4000)}}, a}, {f("f", v(0), f("g", v(1))), []api.Bind{{Var: 1, Term: float(2)}, {Var: 0, Term: num("12")}}, f("f", num("12"), f("g", float(2)))},
	} {
		got, e := term.Put(c.t, c.l)
		checkTerm(t, "Put", got, e, c.want)
	}
}

func TestPutAtTheLimit(t *testing.T) {
	twice, row := f("f", v(0), v(1), v(0)), f("f", make64()...)
	var many []api.Bind
	for i := range 64 {
		many = append(many, api.Bind{Var: i, Term: wide(api.MaxNodes)})
	}
	for _, c := range []struct {
		name string
		t    api.Term
		l    []api.Bind
		fits bool
	}{
		{"one", v(0), []api.Bind{{Var: 0, Term: wide(4000)}}, true}, {"one within", f("f", v(0)), []api.Bind{{Var: 0, Term: wide(3999)}}, true}, {"one too great", f("f", v(0)), []api.Bind{{Var: 0, Term: wide(4000)}}, false},
		{"twice", twice, []api.Bind{{Var: 0, Term: wide(1999)}}, true}, {"twice, too great", twice, []api.Bind{{Var: 0, Term: wide(2000)}}, false}, {"twice and one", twice, []api.Bind{{Var: 0, Term: wide(1999)}, {Var: 1, Term: f("g", v(0))}}, false},
		{"two", twice, []api.Bind{{Var: 1, Term: wide(1997)}, {Var: 0, Term: wide(1001)}}, true}, {"two, too great", twice, []api.Bind{{Var: 1, Term: wide(1998)}, {Var: 0, Term: wide(1001)}}, false},
		{"what stays counts too", f("f", v(0), v(5), v(6), v(5)), []api.Bind{{Var: 0, Term: wide(3996)}}, true}, {"what stays is one too many", f("f", v(0), v(5), v(6), v(5)), []api.Bind{{Var: 0, Term: wide(3997)}}, false},
		{"what is not there", wide(4000), many, true}, {"many", row, many, false},
	} {
		got, e := term.Put(c.t, c.l)
		if c.fits {
			checkTerm(t, c.name, got, e, put(c.t, c.l))
		} else {
			checkNoTerm(t, c.name, got, e, api.ErrTermNodes)
		}
	}
}

// P2.5: the first bind that is wrong is told, its number ahead of its term;
// the term ahead of all binds; how great it comes to be behind them.
func TestPutOfWrongBinds(t *testing.T) {
	a, x := atom("a"), f("f", v(0), v(0))
	good, name, digits := api.Bind{Var: 0, Term: a}, api.Bind{Var: 1, Term: atom("\xff")}, api.Bind{Var: 2, Term: num("01")}
	below, again, great := api.Bind{Var: -1, Term: a}, api.Bind{Var: 0, Term: v(1)}, api.Bind{Var: 0, Term: wide(4000)}
	for _, c := range []struct {
		name string
		t    api.Term
		l    []api.Bind
		want api.Errno
	}{
		{"below 0", x, []api.Bind{below}, api.ErrArg}, {"the least", x, []api.Bind{{Var: math.MinInt, Term: a}}, api.ErrArg}, {"twice", x, []api.Bind{good, again}, api.ErrArg}, {"twice the same", x, []api.Bind{good, good}, api.ErrArg}, {"twice, apart", x, []api.Bind{good, {Var: 5, Term: a}, again}, api.ErrArg}, {"twice what is not there", x, []api.Bind{{Var: 9, Term: a}, {Var: 9, Term: a}}, api.ErrArg},
		{"a wrong term", x, []api.Bind{good, name}, api.ErrTermName}, {"two wrong terms", x, []api.Bind{good, digits, name}, api.ErrTermNum}, {"a wrong term of none", a, []api.Bind{name}, api.ErrTermName},
		{"a wrong term, then below 0", x, []api.Bind{name, below}, api.ErrTermName}, {"below 0, then a wrong term", x, []api.Bind{below, name}, api.ErrArg}, {"twice, then a wrong term", x, []api.Bind{good, again, name}, api.ErrArg}, {"a wrong term, then twice", x, []api.Bind{good, name, again}, api.ErrTermName},
		{"below 0, and wrong", x, []api.Bind{{Var: -1, Term: atom("\xff")}}, api.ErrArg}, {"twice, and wrong", x, []api.Bind{good, {Var: 0, Term: atom("\xff")}}, api.ErrArg},
		{"too great, then below 0", x, []api.Bind{great, below}, api.ErrArg}, {"too great, then a wrong term", x, []api.Bind{great, name}, api.ErrTermName}, {"too great", x, []api.Bind{great}, api.ErrTermNodes},
		{"a wrong term of all, then below 0", num("00"), []api.Bind{below, name}, api.ErrTermNum}, {"a wrong bind of no term", x, []api.Bind{{Var: 3}}, api.ErrTermKind},
	} {
		got, e := term.Put(c.t, c.l)
		checkNoTerm(t, c.name, got, e, c.want)
	}
}

// P2.8.
func TestMatchThatIsTold(t *testing.T) {
	a, b := atom("a"), atom("b")
	for _, c := range []struct {
		a, b api.Term
		want []api.Bind
		is   bool
	}{
		{f("f", v(0), v(1)), f("f", a, v(0)), []api.Bind{{Var: 0, Term: a}, {Var: 1, Term: v(0)}}, true}, {f("f", v(0), v(0)), f("f", a, b), nil, false}, {f("f", v(0), v(0)), f("f", a, a), []api.Bind{{Var: 0, Term: a}}, true},
		{v(3), v(3), []api.Bind{{Var: 3, Term: v(3)}}, true}, {v(3), v(4), []api.Bind{{Var: 3, Term: v(4)}}, true}, {v(3), f("f", v(3)), []api.Bind{{Var: 3, Term: f("f", v(3))}}, true}, {f("f", v(3)), v(3), nil, false}, {a, v(0), nil, false},
		{f("f", v(0), v(0)), f("f", v(1), v(2)), nil, false}, {f("f", v(0), v(1)), f("f", v(2), v(2)), []api.Bind{{Var: 0, Term: v(2)}, {Var: 1, Term: v(2)}}, true}, {f("f", v(0), v(1)), f("f", v(1), v(0)), []api.Bind{{Var: 0, Term: v(1)}, {Var: 1, Term: v(0)}}, true}, {f("f", v(0), v(0)), f("f", v(0), v(1)), nil, false},
		{f("f", v(9), v(2), v(5)), f("f", a, b, num("1")), []api.Bind{{Var: 2, Term: b}, {Var: 5, Term: num("1")}, {Var: 9, Term: a}}, true}, {f("f", v(0), f("g", v(0))), f("f", f("h", v(2)), f("g", f("h", v(2)))), []api.Bind{{Var: 0, Term: f("h", v(2))}}, true}, {f("f", v(0), f("g", v(0))), f("f", f("h", v(2)), f("g", f("h", v(3)))), nil, false},
		{a, a, nil, true}, {a, b, nil, false}, {num("1"), num("1"), nil, true}, {num("1"), num("2"), nil, false}, {float(1), num("1"), nil, false}, {float(1), float(1), nil, true}, {float(1), float(2), nil, false}, {a, f("a", b), nil, false},
		{f("f", v(0)), f("f", a, b), nil, false}, {f("f", v(0), v(1)), f("f", a), nil, false}, {f("f", v(0)), f("g", a), nil, false}, {f("f", v(0)), atom("f"), nil, false}, {f("f", v(0), a), f("f", b, b), nil, false}, {wide(api.MaxNodes), wide(api.MaxNodes), nil, true}, {v(1), wide(api.MaxNodes), []api.Bind{{Var: 1, Term: wide(api.MaxNodes)}}, true},
	} {
		if got, is, e := term.Match(c.a, c.b); is != c.is || e != api.OK || !equalBinds(got, c.want) {
			t.Errorf("Match of%s:%s, %v, %v; want%s, %v", show(c.a, c.b), showBinds(got), is, e, showBinds(c.want), c.is)
		}
	}
}

// partsOf is a term and all that stands in it.
func partsOf(t api.Term) []api.Term {
	out := []api.Term{t}
	for _, part := range t.Args {
		out = append(out, partsOf(part)...)
	}
	return out
}

// matches tries all that a's variables could stand for.
func matches(a, b api.Term) []api.Bind {
	vars, _ := term.Variables(a)
	slices.Sort(vars)
	parts := partsOf(b)
	l := make([]api.Bind, len(vars))
	var try func(i int) bool
	try = func(i int) bool {
		if i == len(vars) {
			return equal(put(a, l), b)
		}
		return slices.ContainsFunc(parts, func(p api.Term) bool {
			l[i] = api.Bind{Var: vars[i], Term: p}
			return try(i + 1)
		})
	}
	if !try(0) {
		return nil
	}
	return append(make([]api.Bind, 0, 1), l...)
}

func TestMatchTriesAllWays(t *testing.T) {
	d, held := dice(11), 0
	for range 3000 {
		a := f("f", d.term(2), d.term(1))
		b := put(a, []api.Bind{{Var: d.next(2), Term: d.term(1)}, {Var: 2, Term: v(d.next(4))}, {Var: 3, Term: d.term(0)}})
		if d.next(2) == 0 {
			b = d.change(b)
		}
		want := matches(a, b)
		if want != nil {
			held++
		}
		if got, is, e := term.Match(a, b); is != (want != nil) || e != api.OK || !equalBinds(got, want) {
			t.Errorf("Match of%s:%s, %v, %v; want%s, %v", show(a, b), showBinds(got), is, e, showBinds(want), want != nil)
		}
	}
	if held < 300 || held > 2700 {
		t.Errorf("the test tells too little: %d held", held)
	}
}
