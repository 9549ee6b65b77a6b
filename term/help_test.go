package term_test

import (
	"fmt"
	"math"
	"slices"
	"strconv"
	"strings"
	"testing"

	"hornbeam/api"
	"hornbeam/sample"
	"hornbeam/tree"
)

// Short names for what makes terms and looks at them.
var (
	atom, num, v, f   = tree.Atom, tree.Digits, tree.Var, tree.Of
	float, wide, deep = sample.Float, sample.Wide, sample.Deep
	equal, equalLists = sample.Equal, sample.EqualLists
)

func pair(key, value api.Term) api.Term { return f("-", key, value) }

// list puts a list together without the package's help.
func list(end api.Term, l ...api.Term) api.Term {
	for i := len(l) - 1; i >= 0; i-- {
		end = f(".", l[i], end)
	}
	return end
}

func equalBinds(a, b []api.Bind) bool {
	return slices.EqualFunc(a, b, func(x, y api.Bind) bool { return x.Var == y.Var && equal(x.Term, y.Term) })
}

// show is a term as text, cut where it is long.
func show(l ...api.Term) string {
	s := ""
	for _, t := range l {
		s += fmt.Sprintf(" %s", shown{t})
	}
	return s
}

type shown struct{ t api.Term }

func (s shown) String() string {
	switch s.t.Kind {
	case api.Var:
		return fmt.Sprintf("_%d", s.t.Var)
	case api.Atom:
		return cut(strconv.Quote(s.t.Name))
	case api.Integer:
		return cut(s.t.Num)
	case api.Float:
		return fmt.Sprintf("%gf", math.Float64frombits(s.t.Bits))
	}
	out := fmt.Sprintf("%q/%d(", cut(s.t.Name), s.t.Kind)
	for i, part := range s.t.Args {
		if len(out) > 200 {
			return out + ".."
		}
		if i > 0 {
			out += ","
		}
		out += shown{part}.String()
	}
	return out + ")"
}

func cut(s string) string {
	if len(s) > 40 {
		return s[:40] + ".."
	}
	return s
}

func showBinds(l []api.Bind) string {
	s := ""
	for _, b := range l {
		s += fmt.Sprintf(" %d for%s", b.Var, show(b.Term))
	}
	return s
}

// isNone tells whether a term is the zero one.
func isNone(t api.Term) bool { return equal(t, api.Term{}) && t.Args == nil }

// endless is a tree that holds itself.
func endless() api.Term {
	t := f("e", atom("x"), api.Term{})
	t.Args[1] = t
	return t
}

// doubling has few lists, and far more nodes than can be counted.
func doubling() api.Term {
	t := atom("x")
	for range 200 {
		t = f("b", t, t)
	}
	return t
}

// ones is 2 to the power of n, less 1, in digits.
func ones(n int) string {
	digits := []byte{0}
	for range n {
		carry := byte(1)
		for i := range digits {
			d := digits[i]*2 + carry
			digits[i], carry = d%10, d/10
		}
		if carry > 0 {
			digits = append(digits, carry)
		}
	}
	slices.Reverse(digits)
	for i := range digits {
		digits[i] += '0'
	}
	return string(digits)
}

// wrong are trees that may not be, one for each error.
func wrong() map[api.Errno]api.Term {
	return map[api.Errno]api.Term{
		api.ErrTermKind:  f("g", f("h")),
		api.ErrTermName:  f("\xff", atom("a")),
		api.ErrTermNum:   f("g", num("007")),
		api.ErrTermFloat: float(math.Inf(1)),
		api.ErrTermNodes: endless(),
	}
}

// dice are numbers that look like any, the same in each run.
type dice uint64

func (d *dice) next(n int) int {
	*d = *d*6364136223846793005 + 1442695040888963407
	return int(uint64(*d)>>33) % n
}

// term is one of few names and numbers, so that parts often come out alike.
func (d *dice) term(depth int) api.Term {
	kind := d.next(8)
	if depth == 0 {
		kind = d.next(5)
	}
	switch kind {
	case 0, 1:
		return v(d.next(4))
	case 2:
		return atom([]string{"a", "b", "[]"}[d.next(3)])
	case 3:
		return num([]string{"-1", "0", "12"}[d.next(3)])
	case 4:
		return float([]float64{-1, 0, 12}[d.next(3)])
	}
	t := f([]string{"f", "g", "."}[d.next(3)])
	for range 1 + d.next(2) {
		t.Args = append(t.Args, d.term(depth-1))
	}
	return t
}

// change is a term of which one part that holds no other is another one, or
// the same by chance.
func (d *dice) change(t api.Term) api.Term {
	if len(t.Args) == 0 {
		return d.term(0)
	}
	t.Args = slices.Clone(t.Args)
	i := d.next(len(t.Args))
	t.Args[i] = d.change(t.Args[i])
	return t
}

// ladder has terms such that each stands ahead of the next one.
func ladder() []api.Term {
	long := ones(api.MaxBits)
	return []api.Term{
		v(0), v(1), v(2), v(10), v(math.MaxInt),
		float(-math.MaxFloat64), float(-10), float(-9.5), float(-1), float(-0x1p-1022), float(-math.SmallestNonzeroFloat64),
		float(0), float(math.SmallestNonzeroFloat64), float(2 * math.SmallestNonzeroFloat64), float(0x1p-1022), float(1), float(math.Nextafter(1, 2)), float(1e300), float(math.MaxFloat64),
		num("-" + long), num("-" + ones(api.MaxBits-1)), num("-100"), num("-40"), num("-39"), num("-5"), num("-1"),
		num("0"), num("1"), num("5"), num("9"), num("10"), num("11"), num("99"), num("100"), num("9223372036854775807"), num("9223372036854775808"), num("10000000000000000000000"), num("2" + strings.Repeat("0", 1000)), num("3" + strings.Repeat("0", 1000)), num(long),
		atom(""), atom("\x00"), atom("\x00a"), atom("1"), atom("A"), atom("Z"), atom("[]"), atom("a"), atom("aa"), atom("ab"), atom("b"), atom("z"), atom("\u00e9"), atom("\uffff"), atom("\U00010000"),
		f("", v(0)), f("", atom("a")), f("a", v(0)), f("a", v(1)), f("a", float(7)), f("a", num("7")), f("a", atom("b")), f("a", f("a", v(0))), f("a", f("b", v(0))), f("a", f("a", v(0), v(0))), f("aa", v(0)), f("b", v(0)), f("z", f("z", atom("z"))),
		list(atom("[]"), make64()[:20]...), f("a", atom("x"), atom("y")), f("a", atom("x"), atom("z")), f("a", atom("y"), v(0)), f("f", atom("b"), v(3)), f("g", atom("a"), v(0)),
		f("a", v(0), v(0), v(0)), f("-", make64()...), f("a", make64()...),
	}
}

// make64 is as many arguments as there may be.
func make64() []api.Term {
	out := make([]api.Term, api.MaxArity)
	for i := range out {
		out[i] = v(i)
	}
	return out
}

func isWay(a, b int) int {
	switch {
	case a < b:
		return -1
	case a > b:
		return 1
	}
	return 0
}

func checkTerm(t *testing.T, what string, got api.Term, e api.Errno, want api.Term) {
	t.Helper()
	if e != api.OK || !equal(got, want) {
		t.Errorf("%s:%s, %v; want%s", what, show(got), e, show(want))
	}
}

func checkNoTerm(t *testing.T, what string, got api.Term, e, want api.Errno) {
	t.Helper()
	if e != want || !isNone(got) {
		t.Errorf("%s:%s, %v; want %v and no term", what, show(got), e, want)
	}
}
