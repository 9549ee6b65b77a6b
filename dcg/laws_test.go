package dcg_test

import (
	"slices"
	"testing"

	"hornbeam/api"
	"hornbeam/dcg"
	"hornbeam/sample"
	"hornbeam/term"
	"hornbeam/tree"
)

// P10.3: a body between two lists is what it is between two new variables, with
// the lists in their places.
func TestListsInPlaces(t *testing.T) {
	const left, right = 500, 501
	d := sample.Dice(103)
	for range 3000 {
		x := thrownBody(&d, d.Next(6))
		from := sample.Throw(&d, v(0), read("[a, b]"), read("[_2|_11]"), sized(1+d.Next(300)))
		to := sample.Throw(&d, from, v(1), atom("[]"), sized(1+d.Next(300)))
		goal, next, err := dcg.Body(x, v(left), v(right), 20)
		want := saidBody(goal, next, err)
		if err == nil {
			put, e := term.Put(goal, []api.Bind{{Var: left, Term: from}, {Var: right, Term: to}})
			want = withNext(show(put), next)
			if e != api.OK {
				want = manyNodes
			}
		}
		checkBody(t, x, from, to, 20, want)
	}
}

// variables are those of some terms, by their numbers.
func variables(t *testing.T, l ...api.Term) []int {
	t.Helper()
	out, e := term.Variables(l...)
	if e != api.OK {
		t.Fatal(e)
	}
	slices.Sort(out)
	return out
}

// P10.3: all variables of a rule stand in the clause, and all new ones, and no
// other.
func TestVariables(t *testing.T) {
	d := sample.Dice(104)
	for range 3000 {
		x := thrownRule(&d)
		clause, err := dcg.Rule(x)
		if err != nil {
			continue
		}
		all, want, first := variables(t, clause), variables(t, x), 0
		if len(want) > 0 {
			first = want[len(want)-1] + 1
		}
		count := max(len(all), len(want)+2)
		for n := first; len(want) < count; n++ {
			want = append(want, n)
		}
		if !slices.Equal(all, want) {
			t.Errorf("Rule of %s has the variables %v", show(x), all)
		}
	}
}

// P10.3: so it is of a body.
func TestVariablesOfBody(t *testing.T) {
	d := sample.Dice(106)
	for range 3000 {
		x := thrownBody(&d, d.Next(5))
		goal, behind, err := dcg.Body(x, v(70), read("[a|_71]"), 20)
		if err != nil {
			continue
		}
		want := variables(t, x)
		for n := 20; n < behind; n++ {
			want = append(want, n)
		}
		if all := variables(t, goal); !slices.Equal(all, append(want, 70, 71)) {
			t.Errorf("Body of %s has the variables %v, then %d", show(x), all, behind)
		}
	}
}

// P10.3: between lists that are the same [] leaves nothing to do.
func TestNothingToDo(t *testing.T) {
	for _, x := range []api.Term{v(0), atom("[]"), read("[a|_3]"), tree.Int(3), sized(1999)} {
		checkBody(t, atom("[]"), x, x, 9, withNext(show(f("=", x, x)), 9))
	}
}

// R7: of a tree that may not be that is told, ahead of all else; the first one.
func TestMistakes(t *testing.T) {
	for _, m := range sample.Mistakes() {
		want := failure(m.Errno)
		checkRule(t, m.Term, want)
		for _, next := range []int{9, -1, mostVar + 1} {
			checkBody(t, m.Term, v(0), v(1), next, want)
			checkBody(t, tree.Int(3), m.Term, v(1), next, want)
			checkBody(t, tree.Int(3), v(0), m.Term, next, want)
		}
		for _, other := range sample.Mistakes() {
			checkBody(t, m.Term, other.Term, v(1), 9, want)
			checkBody(t, m.Term, v(0), other.Term, 9, want)
			checkBody(t, atom("a"), m.Term, other.Term, 9, want)
		}
		if m.Errno == api.ErrTermNodes {
			continue
		}
		checkRule(t, f("-->", v(mostVar+1), m.Term), want)
		checkRule(t, f("-->", m.Term, tree.Int(3)), want)
		checkRule(t, f("-->", f(",", tree.Int(1), m.Term), atom("b")), want)
		checkRule(t, f("f", m.Term), want)
		checkBody(t, f(",", tree.Int(3), f("{}", m.Term)), v(0), v(1), 9, want)
	}
}

// answered is what a call answers, or throws.
func answered(out api.Term, err error) []api.Term {
	if ball, is := err.(*api.Ball); is {
		return []api.Term{ball.Term}
	}
	return []api.Term{out}
}

// checkMemory makes a call with terms that have spare room: they stay, and no
// two lists of the answer and of them share memory. R5: so it is told again.
func checkMemory(t *testing.T, plain []api.Term, call func(l []api.Term) []api.Term) {
	t.Helper()
	in := sample.Spare(f("in", plain...)).Args
	out := call(in)
	first := sample.ShowAll(out)
	met := map[*api.Term]bool{}
	sample.Places(slices.Concat(in, out), func(p *api.Term) {
		if met[p] {
			t.Errorf("of %s: a list is shared", short(sample.ShowAll(plain)))
		}
		met[p] = true
	})
	sample.Spoil(out...)
	if !sample.IsSpare(api.Term{Kind: api.Compound, Name: "in", Args: in}, f("in", plain...)) {
		t.Errorf("%s is changed", short(sample.ShowAll(plain)))
	}
	if again := sample.ShowAll(call(in)); again != first {
		t.Errorf("of %s: %s, then %s", short(sample.ShowAll(plain)), short(first), short(again))
	}
}

// R4, R5.
func TestMemory(t *testing.T) {
	rule := func(l []api.Term) []api.Term { return answered(dcg.Rule(l[0])) }
	body := func(l []api.Term) []api.Term {
		goal, _, err := dcg.Body(l[0], l[1], l[2], 9)
		return answered(goal, err)
	}
	for _, text := range []string{
		"_5", "a, b", "a -> b", "f(g(a)) ; f(g(a))", "a | b", `\+ f(g(a))`, "{}", "{f(g(a))}", "!", "[]", "[f(g(a)), b]", "call(f(a))", "f(g(a), b)", "a",
		"3", "2.5", "[f(a)|g(b)]", "[f(a)|_5]", "a, [f(a)|g(b)]",
	} {
		x := read(text)
		for _, from := range []string{"_0", "[]", "[f(a), b]", "3"} {
			checkMemory(t, []api.Term{x, read(from), read("[f(a)|_1]")}, body)
			checkMemory(t, []api.Term{x, read(from), read(from)}, body)
		}
		checkMemory(t, []api.Term{f("-->", read("a(f(b))"), x)}, rule)
		checkMemory(t, []api.Term{f("-->", read("a(f(b)), [f(c)]"), x)}, rule)
		checkMemory(t, []api.Term{f("-->", x, read("b"))}, rule)
		checkMemory(t, []api.Term{f("-->", f(",", atom("a"), x), read("b"))}, rule)
		checkMemory(t, []api.Term{x}, rule)
	}
	checkMemory(t, []api.Term{wide("f", api.MaxArity), v(0), v(1)}, body)
	checkMemory(t, []api.Term{atom("a"), sized(2000), sized(2000)}, body)
}

// R7: what is told is a term.
func TestTold(t *testing.T) {
	d := sample.Dice(105)
	for range 2000 {
		x := thrownRule(&d)
		for _, out := range append(answered(dcg.Rule(x)), answered(dcg.Rule(f("-->", atom("a"), x)))...) {
			if e := term.Check(out); e != api.OK {
				t.Errorf("Rule of %s: %v", show(x), e)
			}
		}
	}
}
