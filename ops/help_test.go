package ops_test

import (
	"math"
	"slices"
	"testing"

	"hornbeam/api"
	"hornbeam/ops"
)

// kinds are the seven types.
func kinds() []int {
	return []int{api.FX, api.FY, api.XFX, api.XFY, api.YFX, api.XF, api.YF}
}

// noKinds are numbers of no type.
func noKinds() []int { return []int{0, -1, 8, 9, 256, math.MinInt, math.MaxInt} }

// noPriorities are numbers of no priority.
func noPriorities() []int { return []int{-1, -1200, 1201, math.MinInt, math.MaxInt} }

func op(priority, kind int, name string) api.Op {
	return api.Op{Name: name, Type: kind, Priority: priority}
}

// finders are the three calls that tell of a name, each with its class's types.
func finders() []finder {
	return []finder{
		{"Prefix", (*ops.Table).Prefix, []int{api.FX, api.FY}},
		{"Infix", (*ops.Table).Infix, []int{api.XFX, api.XFY, api.YFX}},
		{"Postfix", (*ops.Table).Postfix, []int{api.XF, api.YF}},
	}
}

type finder struct {
	what  string
	find  func(o *ops.Table, name string) (api.Op, bool)
	kinds []int
}

func classOf(kind int) int {
	return slices.IndexFunc(finders(), func(f finder) bool { return slices.Contains(f.kinds, kind) })
}

// checkName looks at all that is told of a name, which is these operators.
func checkName(t *testing.T, o *ops.Table, name string, want ...api.Op) {
	t.Helper()
	for class, f := range finders() {
		var wanted api.Op
		for _, x := range want {
			if classOf(x.Type) == class {
				wanted = x
			}
		}
		if got, is := f.find(o, name); got != wanted || is != (wanted != api.Op{}) {
			t.Errorf("%s of %q tells %v, %v; want %v", f.what, name, got, is, wanted)
		}
	}
	if is := o.Is(name); is != (len(want) > 0) {
		t.Errorf("Is of %q tells %v", name, is)
	}
}

func checkAdd(t *testing.T, o *ops.Table, priority, kind int, name string, want api.Errno) {
	t.Helper()
	if e := o.Add(priority, kind, name); e != want {
		t.Errorf("Add(%d, %d, %q) tells %v, not %v", priority, kind, name, e, want)
	}
}

// add is checkAdd of what must be taken.
func add(t *testing.T, o *ops.Table, priority, kind int, name string) {
	t.Helper()
	checkAdd(t, o, priority, kind, name, api.OK)
}

func all(o *ops.Table) []api.Op { return slices.Collect(o.All()) }

func checkAll(t *testing.T, what string, got, want []api.Op) {
	t.Helper()
	if !slices.Equal(got, want) {
		t.Errorf("%s: the operators are %v, not %v", what, got, want)
	}
}

// bare is a table without operators but the comma.
func bare(t *testing.T) *ops.Table {
	t.Helper()
	o := ops.New()
	for x := range o.All() {
		if x.Name != "," {
			add(t, o, 0, x.Type, x.Name)
		}
	}
	return o
}
