package ops_test

import (
	"slices"
	"testing"

	"hornbeam/api"
	"hornbeam/ops"
)

// P4.3: the chapter's example.
func TestExamplesOfFinding(t *testing.T) {
	o := ops.New()
	checkName(t, o, "is", op(700, api.XFX, "is"))
	checkName(t, o, "-", op(200, api.FY, "-"), op(500, api.YFX, "-"))
	checkName(t, o, "foo")
}

// P4.3: names are held against each other byte by byte, classes behind them.
func TestAllIsInOrder(t *testing.T) {
	o := bare(t)
	want := []api.Op{
		op(1, api.FY, ""), op(2, api.XF, ""),
		op(3, api.XFX, "\x00"),
		op(1000, api.XFY, ","),
		op(4, api.YF, "A"),
		op(1200, api.FX, "a"), op(6, api.YFX, "a"),
		op(5, api.FX, "a\x00"),
		op(7, api.FX, "a-"), op(7, api.XFX, "a-"),
		op(7, api.FY, "aa"), op(7, api.YF, "aa"),
		op(1200, api.XFY, "b"),
		op(1, api.FX, "\u00e9"),
		op(1, api.YFX, "\uffff"),
		op(1, api.FX, "\U00010000"),
		op(1, api.FX, "\xff"), op(1, api.XFX, "\xff"),
	}
	for range 2 {
		for i := range want {
			// 7 and the number of operators have no common divisor.
			if x := want[i*7%len(want)]; x.Name != "," {
				add(t, o, x.Priority, x.Type, x.Name)
			}
		}
		checkAll(t, "All", all(o), want)
	}
}

// P4.3 and R4: a range may be left early, wherever, and ranged over again.
func TestAllIsLeftAndBegunAgain(t *testing.T) {
	o := ops.New()
	seq := o.All()
	for many := 1; many <= len(first()); many++ {
		var got []api.Op
		for x := range seq {
			if got = append(got, x); len(got) == many {
				break
			}
		}
		checkAll(t, "left early", got, first()[:many])
	}
	checkAll(t, "ranged over again", slices.Collect(seq), first())
}

// P4.3: a range goes through what was there when it began.
func TestAllTellsWhatWasThere(t *testing.T) {
	o := ops.New()
	seq := o.All()
	add(t, o, 1, api.FX, "")
	began := append([]api.Op{op(1, api.FX, "")}, first()...)
	checkAll(t, "begun behind an Add", slices.Collect(seq), began)
	var got []api.Op
	for x := range seq {
		got = append(got, x)
		if x.Name != "," {
			add(t, o, 0, x.Type, x.Name)
		}
		add(t, o, 2, api.FX, x.Name+"~")
		if len(got) > 2*len(began) {
			break
		}
	}
	checkAll(t, "turned within", got, began)
	now := all(o)
	checkAll(t, "begun anew", slices.Collect(seq), now)
	if slices.Contains(now, op(700, api.XFX, "is")) || !slices.Contains(now, op(2, api.FX, "is~")) {
		t.Errorf("what was done within a range did not last: %v", now)
	}
}

// P4.3: ranges within one another do not disturb each other.
func TestAllWithinAll(t *testing.T) {
	seq := ops.New().All()
	var outer []api.Op
	for x := range seq {
		outer = append(outer, x)
		checkAll(t, "the inner one", slices.Collect(seq), first())
	}
	checkAll(t, "the outer one", outer, first())
}

// P4.3: neither of a table and its copy sees what is done to the other.
func TestCopy(t *testing.T) {
	o := ops.New()
	add(t, o, 9, api.XF, "a")
	add(t, o, 0, api.XFX, "is")
	was := all(o)
	p := o.Copy()
	q := p.Copy()
	checkAll(t, "the copy", all(p), was)
	seq := o.All()

	add(t, o, 8, api.YF, "a")
	add(t, o, 300, api.FX, "b")
	add(t, o, 0, api.YFX, "*")
	checkAll(t, "the copy of one that was turned", all(p), was)
	turned := all(o)

	add(t, p, 0, api.YF, "a")
	add(t, p, 400, api.FX, "b")
	add(t, p, 3, api.YFX, "*")
	checkAll(t, "what was copied", all(o), turned)
	checkAll(t, "its range", slices.Collect(seq), turned)
	checkAll(t, "the copy's copy", all(q), was)
	checkName(t, p, "a")
	checkName(t, p, "b", op(400, api.FX, "b"))
	checkName(t, p, "*", op(3, api.YFX, "*"))
	checkName(t, o, "a", op(8, api.YF, "a"))
	checkName(t, o, "b", op(300, api.FX, "b"))
	checkName(t, o, "*")
}

// R1: a nil table.
func TestNil(t *testing.T) {
	var o *ops.Table
	for _, priority := range []int{-1, 0, 700, 1201} {
		for _, kind := range []int{0, api.FX, api.XFX, 8} {
			for _, name := range []string{"a", ",", "[]", "|"} {
				checkAdd(t, o, priority, kind, name, api.ErrArg)
			}
		}
	}
	for _, name := range []string{"", "-", "is", "a"} {
		checkName(t, o, name)
	}
	checkAll(t, "All", all(o), nil)
	if p := o.Copy(); p != nil {
		t.Errorf("Copy tells %v", p)
	}
}
