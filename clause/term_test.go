package clause_test

import (
	"testing"

	"hornbeam/api"
	"hornbeam/clause"
	"hornbeam/sample"
	"hornbeam/tree"
)

// P11.3: the term of each kind of a body.
func TestTerm(t *testing.T) {
	a, b, c := call("a"), call("b"), call("f(_3, 1)")
	for _, row := range []struct {
		body api.Body
		want string
	}{
		{yes, "true"},
		{cut, "!"},
		{a, "a"},
		{c, "f(_3, 1)"},
		{call("call(_3)"), "call(_3)"},
		{call("call(_3 : _4)"), "call(_3 : _4)"},
		{call("call(1)"), "call(1)"},
		{call("call((a, 1))"), "call((a, 1))"},
		{call("(a :- 1)"), "(a :- 1)"},
		{call("','"), "','"},
		{call("true(a)"), "true(a)"},
		{call("':'(1, 2, 3)"), "':'(1, 2, 3)"},
		{and(a, c), "a, f(_3, 1)"},
		{and(and(a, b), and(cut, yes)), "(a, b), !, true"},
		{or(a, b), "a ; b"},
		{or(or(a, b), c), "(a ; b) ; f(_3, 1)"},
		{or(a, when(b, c)), "a ; (b -> f(_3, 1))"},
		{or(when(a, b, c), yes), "(a -> b ; f(_3, 1)) ; true"},
		{or(and(when(a, b), yes), c), "((a -> b), true) ; f(_3, 1)"},
		{or(in(atom("m"), when(a, b)), c), "m : (a -> b) ; f(_3, 1)"},
		{when(a, b), "a -> b"},
		{when(when(a, b), c), "(a -> b) -> f(_3, 1)"},
		{when(a, b, c), "a -> b ; f(_3, 1)"},
		{when(when(a, b), yes, cut), "(a -> b) -> true ; !"},
		{when(a, b, when(c, a)), "a -> b ; f(_3, 1) -> a"},
		{in(atom("m"), a), "m : a"},
		{in(atom("m"), in(atom("n"), cut)), "m : n : !"},
		{in(atom("[]"), and(a, call("call(_0)"))), "[] : (a, call(_0))"},
		{in(atom("m"), call("call(m : _0)")), "m : call(m : _0)"},
	} {
		checkTerm(t, row.body, show(read(row.want)))
		checkReady(t, read(row.want), showBody(row.body))
		checkClause(t, api.Clause{Head: read("p(_0, _1, _2, _3, _4)"), Body: row.body, Vars: 5}, api.OK, show(f(":-", read("p(_0, _1, _2, _3, _4)"), read(row.want))))
	}
}

// P11.3: bodies that Ready does not make.
func TestNoBodyOfReady(t *testing.T) {
	a, b, c := call("a"), call("b"), call("c")
	with := func(b api.Body, x api.Term) api.Body {
		b.Term = x
		return b
	}
	parts := func(b api.Body, l ...api.Body) api.Body {
		b.Sub = l
		return b
	}
	for _, body := range []api.Body{
		{}, {Kind: 8}, {Kind: 9}, {Kind: -1}, {Kind: 1 << 62}, {Term: atom("a")}, {Kind: 8, Sub: []api.Body{a, b}},
		{Kind: api.BCall}, {Kind: api.BAnd}, {Kind: api.BOr}, {Kind: api.BIf}, {Kind: api.BModule},
		callOf(v(0)), callOf(tree.Int(1)), callOf(sample.Float(2.5)), call("true"), call("!"), call("a, b"), call("a ; b"), call("a -> b"), call("a -> b ; c"), call("m : a"), call("_0 : a"), call("m : _0"), call("1 : a"),
		with(yes, atom("true")), with(cut, atom("!")), with(and(a, b), atom("a")), with(or(a, b), v(0)), with(when(a, b), tree.Int(0)), with(when(a, b, c), atom("")),
		with(yes, api.Term{Name: "a"}), with(and(a, b), api.Term{Num: "1"}), with(or(a, b), api.Term{Bits: 1}), with(cut, api.Term{Var: 1}), with(when(a, b), api.Term{Args: []api.Term{{}}}),
		parts(yes, yes), parts(cut, cut, cut), parts(a, b), parts(a, b, c),
		parts(and(a, b), a), parts(and(a, b), a, b, c), parts(or(a, b), a), parts(or(a, b), a, b, c),
		parts(when(a, b)), parts(when(a, b), a), parts(when(a, b), a, b, c, a),
		parts(in(atom("m"), a)), parts(in(atom("m"), a), a, b),
		in(v(0), a), in(tree.Int(1), a), in(read("f(a)"), a), in(api.Term{}, a), in(atom("m"), api.Body{}), in(atom("m"), callOf(v(0))),
		or(when(a, b), c), or(when(when(a, b), b), c), or(when(a, b), when(a, b)),
		and(a, call("true")), and(callOf(v(3)), b), or(a, parts(and(a, b), a)), when(a, b, or(when(a, b), c)), when(or(when(a, b), c), a), in(atom("m"), or(when(a, b), c)),
	} {
		checkTerm(t, body, failure(api.ErrArg))
		for _, whole := range []api.Body{and(body, a), and(a, body), or(body, a), or(a, body), when(body, a), when(a, body), when(body, a, b), when(a, body, b), when(a, b, body), in(atom("m"), body)} {
			checkTerm(t, whole, failure(api.ErrArg))
		}
		checkClause(t, api.Clause{Head: atom("p"), Body: body}, api.ErrArg, "")
		checkClause(t, api.Clause{Head: read("p(_0)"), Body: and(call("q(_0)"), body), Vars: 1}, api.ErrArg, "")
	}
}

// P11.3: trees that may not be are in no body that Ready makes, and are no heads.
func TestBodiesOfMistakes(t *testing.T) {
	for _, m := range sample.Mistakes() {
		x := m.Term
		bodies := []api.Body{callOf(x), callOf(f("f", atom("a"), x)), in(x, call("a")), and(call("a"), callOf(f("f", x))), {Kind: 9, Term: x}}
		if !isNone(x) {
			bodies = append(bodies, api.Body{Kind: api.BTrue, Term: x}, api.Body{Kind: api.BAnd, Term: x, Sub: []api.Body{yes, yes}})
		}
		for _, b := range bodies {
			checkTerm(t, b, failure(api.ErrArg))
			checkClause(t, api.Clause{Head: atom("p"), Body: b}, api.ErrArg, "")
		}
		for _, head := range []api.Term{x, f("p", x), f("p", atom("a"), f("g", x))} {
			checkClause(t, api.Clause{Head: head, Body: yes}, api.ErrArg, "")
			checkClause(t, api.Clause{Head: head, Body: callOf(wide(500))}, api.ErrArg, "")
			checkClause(t, api.Clause{Head: head, Body: yes, Vars: -1}, api.ErrArg, "")
		}
	}
}

// endless are bodies that hold themselves, in one place or in more.
func endless() []api.Body {
	var out []api.Body
	for kind := range 9 {
		for parts := 1; parts <= 3; parts++ {
			for places := 1; places < 1<<parts; places++ {
				b := api.Body{Kind: kind, Sub: make([]api.Body, parts)}
				for i := range b.Sub {
					b.Sub[i] = yes
					if places>>i&1 == 1 {
						b.Sub[i] = b
					}
				}
				out = append(out, b)
			}
		}
	}
	return out
}

// R1: the greatest bodies, and those that hold themselves, come to an end.
func TestEndlessBodies(t *testing.T) {
	bodies := endless()
	for kind := range 9 {
		long := api.Body{Kind: kind, Sub: make([]api.Body, 10000)}
		deep := cut
		for range 30000 {
			deep = api.Body{Kind: kind, Sub: []api.Body{deep, yes}}
		}
		bodies = append(bodies, long, and(yes, long), deep)
	}
	for i, b := range bodies {
		if got := saidTerm(clause.Term(b)); got != failure(api.ErrArg) {
			t.Errorf("Term of body %d: %s", i, short(got))
		}
		for _, head := range []api.Term{atom("p"), wide(500), {}} {
			c := api.Clause{Head: head, Body: b}
			if got := clause.Check(c); got != api.ErrArg {
				t.Errorf("Check of body %d: %v", i, got)
			}
			if got := saidTerm(clause.Whole(c)); got != failure(api.ErrArg) {
				t.Errorf("Whole of body %d: %s", i, short(got))
			}
		}
	}
}

// P11.3: Ready makes no body whose term has more than MaxNodes nodes.
func TestTermOfManyNodes(t *testing.T) {
	a, b := call("a"), call("call(_3)")
	for _, around := range []func(x api.Body) api.Body{
		func(x api.Body) api.Body { return x },
		func(x api.Body) api.Body { return and(x, yes) },
		func(x api.Body) api.Body { return and(b, x) },
		func(x api.Body) api.Body { return or(cut, x) },
		func(x api.Body) api.Body { return when(x, a) },
		func(x api.Body) api.Body { return when(b, x) },
		func(x api.Body) api.Body { return when(x, a, b) },
		func(x api.Body) api.Body { return when(b, x, a) },
		func(x api.Body) api.Body { return when(a, b, x) },
		func(x api.Body) api.Body { return in(atom("m"), x) },
		func(x api.Body) api.Body { return and(in(atom("m"), x), when(x, callOf(wide(1000)), x)) },
		func(x api.Body) api.Body { return and(in(atom("m"), callOf(wide(3900))), and(and(a, b), or(b, x))) },
	} {
		none, one := countOf(modelTerm(around(call("a")))), countOf(modelTerm(around(call("f(a)"))))
		most := 1 + (api.MaxNodes-none)/(one-none)
		fits, tooBig := around(callOf(wide(most))), around(callOf(wide(most+1)))
		checkTerm(t, fits, show(modelTerm(fits)))
		checkReady(t, modelTerm(fits), showBody(fits))
		checkTerm(t, tooBig, failure(api.ErrArg))
		checkClause(t, api.Clause{Head: atom("p"), Body: fits}, api.ErrClauseBig, "")
		checkClause(t, api.Clause{Head: atom("p"), Body: tooBig}, api.ErrArg, "")
		checkClause(t, api.Clause{Head: v(0), Body: tooBig}, api.ErrArg, "")
	}
}

// P11.3: all small bodies made by hand, and greater ones of some of them.
func TestAllSmallBodies(t *testing.T) {
	terms := append(readAll("a", "_0", "1", "true", "call(_0)", "(a, _0)", "a : _0", "_0 : a", "[]"), api.Term{})
	var leaves []api.Body
	for kind := range 9 {
		for _, x := range terms {
			leaves = append(leaves, api.Body{Kind: kind, Term: x})
		}
	}
	good := []api.Body{yes, cut, call("a"), call("call(_0)"), {}, {Kind: api.BIf}, when(yes, cut), when(yes, cut, yes), or(yes, cut), in(atom("a"), call("a")), and(yes, cut)}
	lists := [][]api.Body{nil}
	for _, x := range leaves {
		lists = append(lists, []api.Body{x})
		for _, y := range leaves {
			lists = append(lists, []api.Body{x, y})
		}
	}
	for _, x := range good {
		lists = append(lists, []api.Body{x})
		for _, y := range good {
			lists = append(lists, []api.Body{x, y})
			for _, z := range good {
				lists = append(lists, []api.Body{x, y, z}, []api.Body{in(atom("a"), or(x, y)), z}, []api.Body{and(x, y), z}, []api.Body{when(x, y), z})
			}
		}
	}
	count := 0
	for kind := range 9 {
		for _, x := range []api.Term{{}, atom("a"), v(0), tree.Int(1)} {
			for _, l := range lists {
				b := api.Body{Kind: kind, Term: x, Sub: l}
				want := failure(api.ErrArg)
				if modelMade(b) {
					want = show(modelTerm(b))
					checkReady(t, modelTerm(b), showBody(b))
					count++
				}
				checkTerm(t, b, want)
			}
		}
	}
	if count < 3000 {
		t.Errorf("%d bodies are ones that Ready makes", count)
	}
}

// P11.3: bodies that Ready made, changed in one place.
func TestChangedBodies(t *testing.T) {
	d := sample.Dice(113)
	same := 0
	for range 10000 {
		b, err := clause.Ready(goal(&d, d.Next(5)))
		if err != nil {
			continue
		}
		changed := change(&d, b)
		want := failure(api.ErrArg)
		if modelMade(changed) {
			want = show(modelTerm(changed))
			checkReady(t, modelTerm(changed), showBody(changed))
			same++
		}
		checkTerm(t, changed, want)
	}
	if same < 500 || same > 7500 {
		t.Errorf("%d bodies are ones that Ready makes", same)
	}
}

// change is a body with something done to one of its parts.
func change(d *sample.Dice, b api.Body) api.Body {
	if len(b.Sub) > 0 && d.Next(4) > 0 {
		i := d.Next(len(b.Sub))
		l := append([]api.Body(nil), b.Sub...)
		l[i] = change(d, l[i])
		b.Sub = l
		return b
	}
	switch d.Next(5) {
	case 0:
		b.Kind = d.Next(9)
	case 1:
		b.Term = sample.Throw(d, api.Term{}, atom("a"), atom("true"), v(0), tree.Int(3), read("f(_0)"), read("(a, b)"), read("a : b"))
	case 2:
		b.Sub = append(b.Sub[:len(b.Sub):len(b.Sub)], sample.Throw(d, yes, cut, call("a"), api.Body{}))
	case 3:
		b.Sub = b.Sub[:max(0, len(b.Sub)-1)]
	case 4:
		return sample.Throw(d, yes, cut, call("a"), call("call(_3)"), when(yes, cut), when(yes, cut, yes), in(atom("n"), yes), callOf(v(3)), api.Body{})
	}
	return b
}
