package term_test

import (
	"testing"

	"hornbeam/api"
	"hornbeam/term"
)

// P2.3: all pairs of the ladder, and with them P2.9.
func TestCompareOfTheLadder(t *testing.T) {
	l, again := ladder(), ladder()
	for i, a := range l {
		for j, b := range again {
			if way, e := term.Compare(a, b); way != isWay(i, j) || e != api.OK {
				t.Errorf("Compare of%s: %d, %v; want %d", show(a, b), way, e, isWay(i, j))
			}
			x, y := f("f", atom("a"), a, v(9)), f("f", atom("a"), b, v(9))
			if way, e := term.Compare(x, y); way != isWay(i, j) || e != api.OK {
				t.Errorf("Compare within, of%s: %d, %v; want %d", show(a, b), way, e, isWay(i, j))
			}
		}
	}
}

func TestCompareThatIsTold(t *testing.T) {
	for _, c := range []struct {
		a, b api.Term
		want int
	}{
		{float(2), num("1"), -1}, {atom("b"), atom("a"), 1}, {f("f", atom("z")), f("a", atom("x"), atom("y")), -1}, {f("f", atom("b")), f("g", atom("a")), -1}, {num("-5"), num("-40"), 1},
		{float(1), num("1"), -1}, {v(9), float(-9), -1}, {atom("f"), f("f", v(0)), -1}, {atom("1"), num("1"), 1}, {num("-1"), num("1"), -1}, {num("1"), num("-1"), 1}, {num("-1"), num("0"), -1},
		{f("f", v(1), v(0)), f("f", v(0), v(1)), 1}, {f("f", v(0), v(1)), f("f", v(0), v(1)), 0}, {list(atom("[]"), atom("a")), list(atom("[]"), atom("b")), -1},
		{deep(api.MaxNodes), deep(api.MaxNodes), 0}, {deep(api.MaxNodes), deep(api.MaxNodes - 1), 1}, {wide(api.MaxNodes), wide(api.MaxNodes), 0},
	} {
		if way, e := term.Compare(c.a, c.b); way != c.want || e != api.OK {
			t.Errorf("Compare of%s: %d, %v; want %d", show(c.a, c.b), way, e, c.want)
		}
	}
}

// P2.7.
func TestSortThatIsTold(t *testing.T) {
	l := []api.Term{atom("b"), num("1"), atom("a"), atom("b"), float(2)}
	got, e := term.Sort(l, false)
	if e != api.OK || !equalLists(got, []api.Term{float(2), num("1"), atom("a"), atom("b"), atom("b")}) {
		t.Errorf("Sort:%s, %v", show(got...), e)
	}
	got, e = term.Sort(l, true)
	if e != api.OK || !equalLists(got, []api.Term{float(2), num("1"), atom("a"), atom("b")}) {
		t.Errorf("Sort, once:%s, %v", show(got...), e)
	}
	for _, once := range []bool{false, true} {
		if got, e := term.Sort(nil, once); len(got) != 0 || e != api.OK {
			t.Errorf("Sort of none:%s, %v", show(got...), e)
		}
		if got, e := term.Sort([]api.Term{f("f", v(3))}, once); e != api.OK || !equalLists(got, []api.Term{f("f", v(3))}) {
			t.Errorf("Sort of one:%s, %v", show(got...), e)
		}
	}
	got, e = term.Sort([]api.Term{v(1), v(0), v(1), v(1), v(0)}, true)
	if e != api.OK || !equalLists(got, []api.Term{v(0), v(1)}) {
		t.Errorf("Sort of variables, once:%s, %v", show(got...), e)
	}
}

// The ladder, shuffled, some of it more than once.
func TestSortOfTheLadder(t *testing.T) {
	d := dice(3)
	want := ladder()
	var all, l []api.Term
	for _, x := range want {
		for range 1 + d.next(3) {
			all = append(all, x)
			i := d.next(len(l) + 1)
			l = append(l[:i:i], append([]api.Term{x}, l[i:]...)...)
		}
	}
	if got, e := term.Sort(l, false); e != api.OK || !equalLists(got, all) {
		t.Errorf("Sort:%s, %v", show(got...), e)
	}
	if got, e := term.Sort(l, true); e != api.OK || !equalLists(got, want) {
		t.Errorf("Sort, once:%s, %v", show(got...), e)
	}
}

func TestKeySortThatIsTold(t *testing.T) {
	a, b := atom("a"), atom("b")
	got, e := term.KeySort([]api.Term{pair(b, num("1")), pair(a, num("2")), pair(b, num("0"))})
	if e != api.OK || !equalLists(got, []api.Term{pair(a, num("2")), pair(b, num("1")), pair(b, num("0"))}) {
		t.Errorf("KeySort:%s, %v", show(got...), e)
	}
	if got, e := term.KeySort(nil); len(got) != 0 || e != api.OK {
		t.Errorf("KeySort of none:%s, %v", show(got...), e)
	}
	for _, x := range []api.Term{a, v(0), num("1"), float(1), atom("-"), f("-", a), f("-", a, b, a), f("+", a, b), f("--", a, b), list(atom("[]"), a)} {
		for _, l := range [][]api.Term{{x}, {x, pair(a, b)}, {pair(a, b), x, pair(a, b)}, {pair(a, b), pair(b, b), x}} {
			if got, e := term.KeySort(l); len(got) != 0 || e != api.ErrTermList {
				t.Errorf("KeySort with%s:%s, %v", show(x), show(got...), e)
			}
		}
	}
}

// So many that an order that does not stay would show.
func TestKeySortKeepsTheOrderOfOneKey(t *testing.T) {
	d := dice(5)
	keys := ladder()[25:45]
	var l, want []api.Term
	parts := make([][]api.Term, len(keys))
	for i := range 600 {
		k := d.next(len(keys))
		p := pair(keys[k], v((i*7919)%600))
		l, parts[k] = append(l, p), append(parts[k], p)
	}
	for _, part := range parts {
		want = append(want, part...)
	}
	if got, e := term.KeySort(l); e != api.OK || !equalLists(got, want) {
		t.Errorf("KeySort:%s, %v", show(got...), e)
	}
}
