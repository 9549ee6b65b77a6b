package arith_test

import (
	"errors"
	"testing"

	"hornbeam/api"
	"hornbeam/arith"
	"hornbeam/bigint"
	"hornbeam/sample"
	"hornbeam/term"
)

// checkAlike checks that two expressions tell the same.
func checkAlike(t *testing.T, a, b api.Term) {
	t.Helper()
	x, err := arith.Eval(a)
	y, other := arith.Eval(b)
	if !equal(x, y) || said(err) != said(other) {
		t.Errorf("%s is %s, %s; but %s is %s, %s", short(show(a)), short(show(x)), said(err), short(show(b)), short(show(y)), said(other))
	}
}

// P7.3: sums and products turned round; a quotient and its remainder.
func TestLaws(t *testing.T) {
	d := sample.Dice(73)
	l := edges()
	for range 100 {
		l = append(l, thrownNumber(&d, l))
	}
	for _, x := range l {
		for _, y := range l {
			checkAlike(t, f("+", x, y), f("+", y, x))
			checkAlike(t, f("*", x, y), f("*", y, x))
			if x.Kind == api.Integer && y.Kind == api.Integer && y.Num != "0" {
				check(t, f("+", f("*", f("//", x, y), y), f("rem", x, y)), x)
				checkBack(t, x, y)
			}
		}
	}
}

// checkBack checks a quotient that is cut downwards. It may be one that, times
// what it was divided by, has more than MaxBits bits.
func checkBack(t *testing.T, x, y api.Term) {
	t.Helper()
	back := f("+", f("*", f("div", x, y), y), f("mod", x, y))
	if got, err := arith.Eval(back); err == nil || said(err) != said(&api.Ball{Term: manyBits}) {
		check(t, back, x)
	} else if !sample.IsNone(got) || valueOf(x).Num().BitLen() < api.MaxBits-1 {
		t.Errorf("%s is %s, %s", short(show(back)), short(show(got)), said(err))
	}
}

// P7.3: of integers Compare is bigint's Cmp.
func TestCompareIsCmp(t *testing.T) {
	for _, x := range edges() {
		for _, y := range edges() {
			if x.Kind == api.Integer && y.Kind == api.Integer {
				a, _ := bigint.Parse(x.Num, 10)
				b, _ := bigint.Parse(y.Num, 10)
				checkCompare(t, x, y, bigint.Cmp(a, b))
			}
		}
	}
}

// R7: of a tree that may not be that is told, ahead of all else.
func TestEvalOfMistakes(t *testing.T) {
	for _, m := range sample.Mistakes() {
		checkMistake(t, m.Term, m.Errno)
		if m.Errno != api.ErrTermNodes {
			checkMistake(t, f("+", v(0), m.Term), m.Errno)
			checkMistake(t, f("+", m.Term, num("1")), m.Errno)
			checkMistake(t, f("foo", f("/", num("1"), num("0")), m.Term), m.Errno)
		}
	}
}

func checkMistake(t *testing.T, x api.Term, want api.Errno) {
	t.Helper()
	if got, err := arith.Eval(x); err != want || !sample.IsNone(got) {
		t.Errorf("Eval(%s): %s, %s; want %v", short(show(x)), short(show(got)), said(err), want)
	}
}

// R4: what is handed in stays, and what is answered is new memory.
func TestMemory(t *testing.T) {
	for _, text := range []string{"1", "2.5", "_", "foo", "pi", "1 + 2 * 3", "max(1, 2.5)", "foo(1)", "1.5 mod 2", "2 ^ -1", "1 / 0", "- 5", "+ 5", "truncate(7)"} {
		x := read(text)
		in := sample.Spare(x)
		got, err := arith.Eval(in)
		if !sample.IsSpare(in, x) {
			t.Errorf("Eval(%s) changes it", text)
		}
		first, again := answered(got, err), answered(arith.Eval(in))
		sample.Spoil(first)
		if !sample.IsSpare(in, x) || !equal(again, answered(arith.Eval(in))) {
			t.Errorf("Eval(%s) shares what it tells", text)
		}
		if cap(got.Args) > 0 {
			t.Errorf("Eval(%s) tells a list", text)
		}
	}
	a, b := sample.Spare(num("1")), sample.Spare(float(2))
	if arith.Compare(a, b); !sample.IsSpare(a, num("1")) || !sample.IsSpare(b, float(2)) {
		t.Errorf("Compare changes what is handed in")
	}
}

// answered is what Eval tells: a value, or a ball.
func answered(x api.Term, err error) api.Term {
	var ball *api.Ball
	if errors.As(err, &ball) {
		return ball.Term
	}
	return x
}

// R7: what Eval tells is a term.
func TestTold(t *testing.T) {
	d := sample.Dice(74)
	few := edges()
	for range 2000 {
		x := thrownExpression(&d, few, 3)
		got := answered(arith.Eval(x))
		if e := term.Check(got); e != api.OK {
			t.Errorf("Eval(%s) tells %s: %v", short(show(x)), short(show(got)), e)
		}
	}
}
