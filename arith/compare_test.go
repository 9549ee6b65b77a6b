package arith_test

import (
	"math"
	"testing"

	"hornbeam/api"
	"hornbeam/arith"
	"hornbeam/sample"
)

func checkCompare(t *testing.T, a, b api.Term, want int) {
	t.Helper()
	if got, e := arith.Compare(a, b); got != want || e != api.OK {
		t.Errorf("Compare(%s, %s): %d, %v; want %d", short(show(a)), short(show(b)), got, e, want)
	}
}

// P7.2: the chapter's examples, and others like them.
func TestCompare(t *testing.T) {
	checkCompare(t, num("9007199254740993"), float(9007199254740992), 1)
	checkCompare(t, num("1"), float(1), 0)
	checkCompare(t, float(1), num("1"), 0)
	checkCompare(t, num("0"), float(0), 0)
	checkCompare(t, float(-1.5), num("-1"), -1)
	checkCompare(t, num("-1"), float(-1.5), 1)
	checkCompare(t, num("-2"), float(-1.5), -1)
	checkCompare(t, num("0"), float(5e-324), -1)
	checkCompare(t, num("0"), float(-5e-324), 1)
	checkCompare(t, float(0.5), num("1"), -1)
	checkCompare(t, num("2"), num("10"), -1)
	checkCompare(t, num("-2"), num("-10"), 1)
	checkCompare(t, float(2), float(10), -1)
	checkCompare(t, power(1024, 0), float(math.MaxFloat64), 1)
	checkCompare(t, truncated(math.MaxFloat64), float(math.MaxFloat64), 0)
	checkCompare(t, power(4096, -1), float(math.MaxFloat64), 1)
	checkCompare(t, minus(power(4096, -1)), float(-math.MaxFloat64), -1)
}

// P7.2, P7.3: numbers of both kinds are held against each other as fractions
// are, and so it is an order.
func TestCompareOfEdges(t *testing.T) {
	d := sample.Dice(72)
	l := edges()
	for range 200 {
		x := math.Ldexp(float64(d.Next(1<<30)-1<<29), d.Next(200)-60) + 0
		l = append(l, float(x), truncated(x), float(float64(d.Next(9)-4)/2))
	}
	for _, a := range l {
		for _, b := range l {
			checkCompare(t, a, b, valueOf(a).Cmp(valueOf(b).Rat))
		}
	}
}

// P7.2: what is no number.
func TestCompareOfOthers(t *testing.T) {
	wrong := []api.Term{atom("a"), atom("1"), atom("pi"), v(0), f("+", num("1"), num("2")), f("-", num("1"))}
	for _, x := range wrong {
		for _, y := range append(wrong, num("1"), float(1)) {
			checkNoOrder(t, x, y, api.ErrArithNumber)
			checkNoOrder(t, y, x, api.ErrArithNumber)
		}
	}
}

func checkNoOrder(t *testing.T, a, b api.Term, want api.Errno) {
	t.Helper()
	if got, e := arith.Compare(a, b); got != 0 || e != want {
		t.Errorf("Compare(%s, %s): %d, %v; want 0, %v", short(show(a)), short(show(b)), got, e, want)
	}
}

// R7: the first term that may not be is told, ahead of all else.
func TestCompareOfMistakes(t *testing.T) {
	for _, m := range sample.Mistakes() {
		for _, x := range []api.Term{num("1"), float(1), atom("a"), v(0)} {
			checkNoOrder(t, m.Term, x, m.Errno)
			checkNoOrder(t, x, m.Term, m.Errno)
		}
		for _, other := range sample.Mistakes() {
			checkNoOrder(t, m.Term, other.Term, m.Errno)
		}
	}
}
