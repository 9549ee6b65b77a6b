package ops_test

import (
	"cmp"
	"slices"
	"testing"

	"hornbeam/api"
	"hornbeam/ops"
	"hornbeam/sample"
)

// model is a list of operators, in no order, with the chapter's rules as they
// are worded there.
type model []api.Op

// refusal is what Add must tell.
func (m model) refusal(priority, kind int, name string) api.Errno {
	infix, postfix := classOf(kind) == 1, classOf(kind) == 2
	switch {
	case priority < 0 || priority > 1200:
		return api.ErrOpsPriority
	case !slices.Contains(kinds(), kind):
		return api.ErrOpsType
	case name == ",":
		return api.ErrOpsModify
	case name == "[]" || name == "{}":
		return api.ErrOpsCreate
	case name == "|" && (!infix || 1 <= priority && priority <= 1000):
		return api.ErrOpsCreate
	case priority != 0 && infix && m.is(name, 2), priority != 0 && postfix && m.is(name, 1):
		return api.ErrOpsCreate
	}
	return api.OK
}

func (m model) is(name string, class int) bool {
	return slices.ContainsFunc(m, func(x api.Op) bool { return x.Name == name && classOf(x.Type) == class })
}

// added is the model behind an Add that was taken.
func (m model) added(priority, kind int, name string) model {
	out := slices.DeleteFunc(slices.Clone(m), func(x api.Op) bool { return x.Name == name && classOf(x.Type) == classOf(kind) })
	if priority > 0 {
		out = append(out, op(priority, kind, name))
	}
	return out
}

func (m model) of(name string) []api.Op {
	return slices.DeleteFunc(slices.Clone(m), func(x api.Op) bool { return x.Name != name })
}

func (m model) inOrder() []api.Op {
	return slices.SortedFunc(slices.Values(m), func(x, y api.Op) int {
		return cmp.Or(slices.Compare([]byte(x.Name), []byte(y.Name)), cmp.Compare(classOf(x.Type), classOf(y.Type)))
	})
}

// step does one Add to both, and looks at all that is told then.
func (m model) step(t *testing.T, o *ops.Table, x api.Op, names []string) model {
	t.Helper()
	want := m.refusal(x.Priority, x.Type, x.Name)
	checkAdd(t, o, x.Priority, x.Type, x.Name, want)
	if want == api.OK {
		m = m.added(x.Priority, x.Type, x.Name)
	}
	for _, name := range names {
		checkName(t, o, name, m.of(name)...)
	}
	checkAll(t, "behind an Add", all(o), m.inOrder())
	for _, name := range names {
		if m.is(name, 1) && m.is(name, 2) {
			t.Fatalf("%q is infix and postfix", name)
		}
	}
	return m
}

// P4.5: all rows of three Adds of some.
func TestRowsOfAdds(t *testing.T) {
	names := []string{"a", "|"}
	var adds []api.Op
	for _, name := range names {
		for _, kind := range []int{api.FY, api.XFX, api.YFX, api.XF} {
			for _, priority := range []int{0, 1000, 1001} {
				adds = append(adds, op(priority, kind, name))
			}
		}
	}
	small := bare(t)
	for _, one := range adds {
		for _, two := range adds {
			for _, three := range adds {
				if t.Failed() {
					return
				}
				o, m := small.Copy(), model{op(1000, api.XFY, ",")}
				for _, x := range []api.Op{one, two, three} {
					m = m.step(t, o, x, names)
				}
			}
		}
	}
}

// P4.5: long rows of Adds of any numbers, from what is there from the
// beginning on, and of a copy from somewhere in between on.
func TestLongRowsOfAdds(t *testing.T) {
	d := sample.Dice(4)
	names := []string{"a", "b", "", "is", "-", ":-", "|", ",", "[]", "{}", "\xff"}
	priorities := append([]int{0, 0, 0, 1, 200, 999, 1000, 1001, 1200}, noPriorities()...)
	for range 40 {
		o, m := ops.New(), model(first())
		copied, was := o.Copy(), m
		for i := range 100 {
			if t.Failed() {
				return
			}
			kind := sample.Throw(&d, kinds()...)
			if d.Next(10) == 0 {
				kind = sample.Throw(&d, noKinds()...)
			}
			m = m.step(t, o, op(sample.Throw(&d, priorities...), kind, sample.Throw(&d, names...)), names)
			if i%30 == 29 {
				checkAll(t, "a copy", all(copied), was.inOrder())
				copied, was = o.Copy(), m
				o, copied = copied, o
			}
		}
	}
}

// R5: what is told hangs on no order in which it was told.
func TestOrderOfAddsIsNotTold(t *testing.T) {
	d := sample.Dice(5)
	want := first()
	for range 50 {
		l := slices.Clone(first())
		for i := range l {
			j := d.Next(i + 1)
			l[i], l[j] = l[j], l[i]
		}
		o := bare(t)
		for _, x := range l {
			if x.Name != "," {
				add(t, o, x.Priority, x.Type, x.Name)
			}
		}
		checkAll(t, "in any order", all(o), want)
	}
}
