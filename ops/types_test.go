package ops_test

import (
	"math"
	"testing"

	"hornbeam/api"
	"hornbeam/ops"
)

func checkSides(t *testing.T, x api.Op, left, right int) {
	t.Helper()
	if l, r := ops.Sides(x); l != left || r != right {
		t.Errorf("Sides of %v tells %d and %d, not %d and %d", x, l, r, left, right)
	}
}

// P4.4: the sides of each type.
func TestSides(t *testing.T) {
	for _, p := range []int{1, 2, 50, 200, 700, 999, 1000, 1199, 1200} {
		for _, name := range []string{"", "a", ",", "[]"} {
			checkSides(t, op(p, api.FX, name), 0, p-1)
			checkSides(t, op(p, api.FY, name), 0, p)
			checkSides(t, op(p, api.XFX, name), p-1, p-1)
			checkSides(t, op(p, api.XFY, name), p-1, p)
			checkSides(t, op(p, api.YFX, name), p, p-1)
			checkSides(t, op(p, api.XF, name), p-1, 0)
			checkSides(t, op(p, api.YF, name), p, 0)
		}
	}
}

// P4.4: of a hand-made operator, whose priority is any number; of none of the
// seven types.
func TestSidesOfWhatNobodyGave(t *testing.T) {
	checkSides(t, op(0, api.XFY, "a"), -1, 0)
	checkSides(t, op(-7, api.YFX, "a"), -7, -8)
	checkSides(t, op(math.MaxInt, api.FX, "a"), 0, math.MaxInt-1)
	checkSides(t, op(math.MinInt, api.YF, "a"), math.MinInt, 0)
	for _, kind := range noKinds() {
		for _, p := range []int{0, 7, 1200, math.MinInt, math.MaxInt} {
			checkSides(t, op(p, kind, "a"), 0, 0)
		}
	}
	checkSides(t, api.Op{}, 0, 0)
}

// P4.4: words lead to types, and back.
func TestTypesAndWords(t *testing.T) {
	for i, word := range []string{"fx", "fy", "xfx", "xfy", "yfx", "xf", "yf"} {
		if kind := ops.Type(word); kind != kinds()[i] {
			t.Errorf("Type of %q tells %d", word, kind)
		}
		if got := ops.Word(kinds()[i]); got != word {
			t.Errorf("Word of %d tells %q, not %q", kinds()[i], got, word)
		}
	}
}

// P4.4: what is no word, and no type.
func TestNoTypesAndNoWords(t *testing.T) {
	for _, word := range []string{"", "f", "x", "y", "yfy", "fxx", "fyx", "xxf", "FX", "Xfx", " fx", "fx ", "xfx\x00", "fxfy", "fx fy", "f\xff", "1"} {
		if kind := ops.Type(word); kind != 0 {
			t.Errorf("Type of %q tells %d", word, kind)
		}
	}
	for _, kind := range noKinds() {
		if word := ops.Word(kind); word != "" {
			t.Errorf("Word of %d tells %q", kind, word)
		}
	}
}
