package term_test

import (
	"testing"

	"hornbeam/api"
	"hornbeam/term"
)

// P2.9: what follows. The calls here are held against one another alone.

func way(t *testing.T, a, b api.Term) int {
	t.Helper()
	out, e := term.Compare(a, b)
	if e != api.OK {
		t.Fatal(e)
	}
	return out
}

func TestTheStandardOrderIsOne(t *testing.T) {
	d := dice(13)
	for range 20000 {
		a, b, c := d.term(2), d.term(2), d.term(2)
		ab, bc := way(t, a, b), way(t, b, c)
		if way(t, b, a) != -ab || (ab == 0) != equal(a, b) {
			t.Errorf("Compare of%s: %d, and the other way round %d", show(a, b), ab, way(t, b, a))
		}
		if ab <= 0 && bc <= 0 && way(t, a, c) != min(ab, bc) {
			t.Errorf("do not stand in a row:%s", show(a, b, c))
		}
	}
}

func TestElementsOfListAreTheElements(t *testing.T) {
	d := dice(17)
	for range 2000 {
		var l []api.Term
		for range d.next(6) {
			l = append(l, d.term(2))
		}
		end := d.term(1)
		for end.Name == "." && len(end.Args) == 2 {
			end = end.Args[1]
		}
		made, e := term.List(l, end)
		if e != api.OK {
			t.Fatal(e)
		}
		got, rest, e := term.Elements(made)
		if e != api.OK || !equalLists(got, l) || !equal(rest, end) {
			t.Errorf("Elements of List of%s and%s:%s and%s, %v", show(l...), show(end), show(got...), show(rest), e)
		}
		again, e := term.List(got, rest)
		checkTerm(t, "List of Elements", again, e, made)
	}
}

func TestPutOfMatchMakesTheOther(t *testing.T) {
	d, held := dice(19), 0
	for range 5000 {
		a := d.term(3)
		b := put(a, []api.Bind{{Var: 0, Term: d.term(2)}, {Var: 1, Term: d.term(1)}, {Var: 2, Term: v(8)}})
		l, is, e := term.Match(a, b)
		if !is || e != api.OK {
			t.Errorf("Match of%s, that was made of it: %v, %v", show(a, b), is, e)
			continue
		}
		held++
		got, e := term.Put(a, l)
		checkTerm(t, "Put of Match", got, e, b)
		vars, _ := term.Variables(a)
		if len(l) != len(vars) {
			t.Errorf("Match of%s: no bind for each:%s", show(a, b), showBinds(l))
		}
	}
	if held == 0 {
		t.Error("nothing was matched")
	}
}

func TestPlainIsAVariantThatStays(t *testing.T) {
	d := dice(23)
	for range 3000 {
		a, b := d.term(3), d.term(2)
		plain, e := term.Plain(a, b)
		if e != api.OK {
			t.Fatal(e)
		}
		if is, e := term.Variant(f("p", a, b), f("p", plain...)); !is || e != api.OK {
			t.Errorf("Plain of%s is no variant:%s", show(a, b), show(plain...))
		}
		vars, _ := term.Variables(plain...)
		for i, n := range vars {
			if i != n {
				t.Errorf("Plain of%s: variables %v", show(a, b), vars)
			}
		}
		if again, e := term.Plain(plain...); e != api.OK || !equalLists(again, plain) {
			t.Errorf("Plain of%s does not stay:%s", show(plain...), show(again...))
		}
	}
}

func TestSortsOnceAndAgain(t *testing.T) {
	d := dice(29)
	for range 300 {
		var l, keyed []api.Term
		for range d.next(40) {
			x := d.term(1)
			l, keyed = append(l, x), append(keyed, pair(x, v(len(l))))
		}
		all, _ := term.Sort(l, false)
		once, _ := term.Sort(l, true)
		for i := range max(0, len(all)-1) {
			if way(t, all[i], all[i+1]) > 0 {
				t.Errorf("Sort:%s", show(all...))
			}
		}
		for i := range max(0, len(once)-1) {
			if way(t, once[i], once[i+1]) >= 0 {
				t.Errorf("Sort, once:%s", show(once...))
			}
		}
		if again, _ := term.Sort(all, true); !equalLists(again, once) {
			t.Errorf("Sort once of Sort:%s, want%s", show(again...), show(once...))
		}
		pairs, _ := term.KeySort(keyed)
		for i := range pairs {
			if len(pairs) != len(l) || !equal(pairs[i].Args[0], all[i]) {
				t.Errorf("KeySort stands otherwise than Sort:%s, and%s", show(pairs...), show(all...))
			}
			if i > 0 && equal(all[i-1], all[i]) && pairs[i-1].Args[1].Var > pairs[i].Args[1].Var {
				t.Errorf("KeySort:%s", show(pairs...))
			}
		}
	}
}
