package ops_test

import (
	"strings"
	"testing"

	"hornbeam/api"
	"hornbeam/ops"
)

// P4.2: the chapter's examples, one behind the other.
func TestExamplesOfAdd(t *testing.T) {
	o := ops.New()
	checkAdd(t, o, 700, api.XF, "is", api.ErrOpsCreate)
	add(t, o, 700, api.FY, "is")
	checkAdd(t, o, 1201, api.FY, "a", api.ErrOpsPriority)
	checkAdd(t, o, 0, 8, "a", api.ErrOpsType)
	checkAdd(t, o, 9, api.XFX, ",", api.ErrOpsModify)
	checkAdd(t, o, 1000, api.XFY, "|", api.ErrOpsCreate)
	add(t, o, 1001, api.XFY, "|")
	add(t, o, 0, api.XFX, "|")
	checkAdd(t, o, 0, api.FX, "|", api.ErrOpsCreate)
	checkAdd(t, o, 200, api.XFX, "[]", api.ErrOpsCreate)
	checkName(t, o, "is", op(700, api.FY, "is"), op(700, api.XFX, "is"))
	checkName(t, o, "|")
	checkName(t, o, "a")
}

// P4.2: each type with priorities at the edges.
func TestAddPriorities(t *testing.T) {
	for _, kind := range kinds() {
		o := ops.New()
		for _, priority := range []int{1, 2, 200, 999, 1000, 1001, 1199, 1200} {
			add(t, o, priority, kind, "a")
			checkName(t, o, "a", op(priority, kind, "a"))
		}
		for _, priority := range noPriorities() {
			checkAdd(t, o, priority, kind, "a", api.ErrOpsPriority)
			checkName(t, o, "a", op(1200, kind, "a"))
		}
		add(t, o, 0, kind, "a")
		checkName(t, o, "a")
		add(t, o, 0, kind, "a")
		checkAll(t, "at the end", all(o), first())
	}
}

// P4.2: numbers of no type, at each priority that may be.
func TestAddTypes(t *testing.T) {
	o := ops.New()
	for _, kind := range noKinds() {
		for _, priority := range []int{0, 1, 700, 1200} {
			for _, name := range []string{"a", "is", ",", "|", "[]", "{}", ""} {
				checkAdd(t, o, priority, kind, name, api.ErrOpsType)
			}
		}
	}
	checkAll(t, "at the end", all(o), first())
}

// P4.2: a wrong priority is told ahead of all else.
func TestAddTellsThePriorityFirst(t *testing.T) {
	o := ops.New()
	for _, priority := range noPriorities() {
		for _, kind := range append(noKinds(), kinds()...) {
			for _, name := range []string{"a", "is", ",", "|", "[]", "{}", ""} {
				checkAdd(t, o, priority, kind, name, api.ErrOpsPriority)
			}
		}
	}
	checkAll(t, "at the end", all(o), first())
}

// P4.2: names that are refused, whatever is asked of them.
func TestAddNames(t *testing.T) {
	o := ops.New()
	for _, kind := range kinds() {
		for _, priority := range []int{0, 1, 1000, 1001, 1200} {
			checkAdd(t, o, priority, kind, ",", api.ErrOpsModify)
			checkAdd(t, o, priority, kind, "[]", api.ErrOpsCreate)
			checkAdd(t, o, priority, kind, "{}", api.ErrOpsCreate)
		}
	}
	checkAll(t, "at the end", all(o), first())
}

// P4.2: the bar is infix, from 1001 on, or none.
func TestAddBar(t *testing.T) {
	for _, kind := range kinds() {
		for _, c := range []struct {
			priority int
			infix    api.Errno
		}{{0, api.OK}, {1, api.ErrOpsCreate}, {700, api.ErrOpsCreate}, {999, api.ErrOpsCreate}, {1000, api.ErrOpsCreate}, {1001, api.OK}, {1100, api.OK}, {1200, api.OK}} {
			o := ops.New()
			switch {
			case kind < api.XFX || kind > api.YFX:
				checkAdd(t, o, c.priority, kind, "|", api.ErrOpsCreate)
				checkName(t, o, "|", op(1100, api.XFY, "|"))
			case c.infix != api.OK:
				checkAdd(t, o, c.priority, kind, "|", c.infix)
				checkName(t, o, "|", op(1100, api.XFY, "|"))
			case c.priority == 0:
				add(t, o, 0, kind, "|")
				checkName(t, o, "|")
			default:
				add(t, o, c.priority, kind, "|")
				checkName(t, o, "|", op(c.priority, kind, "|"))
			}
		}
	}
}

// P4.2: the bar is refused likewise where it is no operator any more.
func TestAddBarThatIsNone(t *testing.T) {
	o := ops.New()
	add(t, o, 0, api.YFX, "|")
	for _, kind := range []int{api.FX, api.FY, api.XF, api.YF} {
		for _, priority := range []int{0, 1, 1001, 1200} {
			checkAdd(t, o, priority, kind, "|", api.ErrOpsCreate)
		}
	}
	checkAdd(t, o, 1000, api.XFX, "|", api.ErrOpsCreate)
	checkName(t, o, "|")
	add(t, o, 1001, api.XFX, "|")
	checkName(t, o, "|", op(1001, api.XFX, "|"))
}

// P4.2: what is infix does not become postfix, nor the other way round, each
// of either class; but it is no error to take away what is not there.
func TestAddInfixAndPostfix(t *testing.T) {
	infix, postfix := finders()[1].kinds, finders()[2].kinds
	for _, classes := range [][2][]int{{infix, postfix}, {postfix, infix}} {
		for _, one := range classes[0] {
			for _, other := range classes[1] {
				o := ops.New()
				add(t, o, 300, one, "a")
				for _, priority := range []int{1, 300, 1200} {
					checkAdd(t, o, priority, other, "a", api.ErrOpsCreate)
				}
				add(t, o, 0, other, "a")
				checkName(t, o, "a", op(300, one, "a"))
				add(t, o, 400, other, "b")
				add(t, o, 0, one, "a")
				add(t, o, 1200, other, "a")
				checkName(t, o, "a", op(1200, other, "a"))
				checkName(t, o, "b", op(400, other, "b"))
			}
		}
	}
}

// P4.2: a prefix operator stands in nobody's way.
func TestAddPrefixBesideOthers(t *testing.T) {
	for _, kind := range []int{api.FX, api.FY} {
		for _, other := range kinds()[2:] {
			o := ops.New()
			add(t, o, 5, kind, "a")
			add(t, o, 6, other, "a")
			checkName(t, o, "a", op(5, kind, "a"), op(6, other, "a"))
			o = ops.New()
			add(t, o, 6, other, "a")
			add(t, o, 5, kind, "a")
			checkName(t, o, "a", op(5, kind, "a"), op(6, other, "a"))
			add(t, o, 0, kind, "a")
			checkName(t, o, "a", op(6, other, "a"))
		}
	}
}

// P4.2: an operator takes the place of the one of its class, and is taken away
// by any type of its class; the others of that name stay.
func TestAddTakesThePlace(t *testing.T) {
	for _, one := range kinds() {
		for _, other := range kinds() {
			if classOf(one) != classOf(other) {
				continue
			}
			o := ops.New()
			add(t, o, 100, one, "a")
			add(t, o, 900, other, "a")
			checkName(t, o, "a", op(900, other, "a"))
			add(t, o, 0, one, "a")
			checkName(t, o, "a")
		}
	}
	o := ops.New()
	add(t, o, 0, api.FX, "-")
	checkName(t, o, "-", op(500, api.YFX, "-"))
	add(t, o, 0, api.XFX, "+")
	checkName(t, o, "+", op(200, api.FY, "+"))
	add(t, o, 300, api.XFX, "+")
	checkName(t, o, "+", op(200, api.FY, "+"), op(300, api.XFX, "+"))
	add(t, o, 0, api.XF, ":-")
	checkName(t, o, ":-", op(1200, api.FX, ":-"), op(1200, api.XFX, ":-"))
}

// P4.2: any other name may be an operator.
func TestAddAnyName(t *testing.T) {
	for _, name := range []string{"", " ", "a b", "X", "_", "1", "'", "\"", "\x00", "\n", "\xff", "\u00e9", "[", "]", "{", "}", "(", ")", ".", "!", ",,", "||", "[ ]", "{} ", "end_of_file", strings.Repeat("n", 5000)} {
		for _, kind := range kinds() {
			o := ops.New()
			add(t, o, 77, kind, name)
			checkName(t, o, name, op(77, kind, name))
			add(t, o, 0, kind, name)
			checkName(t, o, name)
		}
	}
}
