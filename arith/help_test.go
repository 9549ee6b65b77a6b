package arith_test

import (
	"errors"
	"math"
	"math/big"
	"testing"

	"hornbeam/api"
	"hornbeam/arith"
	"hornbeam/sample"
	"hornbeam/tree"
)

// Short names for what makes terms and looks at them.
var (
	atom, num, v, f    = tree.Atom, tree.Digits, tree.Var, tree.Of
	float, read        = sample.Float, sample.Read
	equal, show, short = sample.Equal, sample.Show, sample.Short
)

func check(t *testing.T, x, want api.Term) {
	t.Helper()
	if got, err := arith.Eval(x); err != nil || !equal(got, want) {
		t.Errorf("%s is %s, %s; want %s", short(show(x)), short(show(got)), said(err), short(show(want)))
	}
}

// checkThrown checks that nothing but a ball is told.
func checkThrown(t *testing.T, x, want api.Term) {
	t.Helper()
	got, err := arith.Eval(x)
	var ball *api.Ball
	if !errors.As(err, &ball) || !equal(ball.Term, want) || !sample.IsNone(got) {
		t.Errorf("%s is %s, %s; want %s", short(show(x)), short(show(got)), said(err), short(show(want)))
	}
}

// checkAll checks expressions against their values, both as text.
func checkAll(t *testing.T, cases map[string]string) {
	t.Helper()
	for x, want := range cases {
		check(t, read(x), read(want))
	}
}

func checkAllThrown(t *testing.T, cases map[string]string) {
	t.Helper()
	for x, want := range cases {
		checkThrown(t, read(x), read(want))
	}
}

// said is an error as text.
func said(err error) string {
	var ball *api.Ball
	switch {
	case err == nil:
		return "no error"
	case errors.As(err, &ball):
		return "thrown " + short(show(ball.Term))
	}
	return err.Error()
}

// Balls that many rows tell.
var (
	instantiation = atom("instantiation_error")
	zeroDivisor   = f("evaluation_error", atom("zero_divisor"))
	undefined     = f("evaluation_error", atom("undefined"))
	overflow      = f("evaluation_error", atom("float_overflow"))
	manyBits      = f("resource_error", atom("bits"))
)

func notEvaluable(name string, arity int) api.Term {
	return f("type_error", atom("evaluable"), f("/", atom(name), tree.Int(arity)))
}

func wrongType(needed string, x api.Term) api.Term { return f("type_error", atom(needed), x) }

// place is where an evaluable stands in the chapter's table.
type place struct {
	name  string
	arity int
}

// places are those of all evaluables.
func places() []place {
	return []place{
		{"pi", 0}, {"e", 0}, {"+", 1}, {"-", 1}, {"abs", 1}, {"sign", 1},
		{"+", 2}, {"-", 2}, {"*", 2}, {"/", 2}, {"//", 2}, {"rem", 2}, {"div", 2}, {"mod", 2}, {"min", 2}, {"max", 2},
		{"^", 2}, {"**", 2}, {">>", 2}, {"<<", 2}, {"/\\", 2}, {"\\/", 2}, {"xor", 2}, {"\\", 1}, {"gcd", 2},
		{"float", 1}, {"truncate", 1}, {"floor", 1}, {"ceiling", 1}, {"round", 1}, {"integer", 1},
		{"float_integer_part", 1}, {"float_fractional_part", 1}, {"sqrt", 1},
	}
}

// integerPlaces are those of the evaluables of integers alone.
func integerPlaces() []place {
	var out []place
	for _, p := range places() {
		switch p.name {
		case "//", "rem", "div", "mod", "^", "**", ">>", "<<", "/\\", "\\/", "xor", "\\", "gcd":
			out = append(out, p)
		}
	}
	return out
}

// of is the evaluable of a place, of some of the arguments.
func (p place) of(args ...api.Term) api.Term {
	if p.arity == 0 {
		return atom(p.name)
	}
	return f(p.name, args[:p.arity]...)
}

// power is 2 to the power of n, and more beside it.
func power(n uint, more int64) api.Term {
	b := new(big.Int).Lsh(big.NewInt(1), n)
	return num(b.Add(b, big.NewInt(more)).String())
}

func minus(x api.Term) api.Term {
	if x.Kind == api.Float {
		return float(0 - math.Float64frombits(x.Bits))
	}
	b, _ := new(big.Int).SetString(x.Num, 10)
	return num(b.Neg(b).String())
}

// edges are numbers at which something turns, of both kinds and both signs.
func edges() []api.Term {
	out := []api.Term{
		num("1"), num("2"), num("3"), num("7"), num("10"), num("63"), num("64"), num("4095"), num("4096"), num("4097"),
		power(53, -1), power(53, 0), power(53, 1), power(53, 3), power(54, 2), power(54, 6), power(62, 0), power(63, -1), power(63, 0), power(64, 0), power(64, 1),
		power(1023, 0), power(1024, -1), power(1024, 0), power(2048, 0), power(2048, 1), power(4095, 0), power(4096, -2), power(4096, -1),
		num(new(big.Int).Sub(new(big.Int).Lsh(big.NewInt(1), 1024), new(big.Int).Lsh(big.NewInt(1), 970)).String()),
		num(new(big.Int).Sub(new(big.Int).Lsh(big.NewInt(1), 1024), new(big.Int).Lsh(big.NewInt(1), 971)).String()),
		float(1), float(2), float(3), float(0.5), float(1.5), float(2.5), float(3.5), float(0.1), float(0.2), float(1e20), float(1e300), float(-1e-300), float(7), float(4096),
		float(math.Nextafter(0.5, 0)), float(math.Nextafter(0.5, 1)), float(math.Nextafter(1, 0)), float(math.Nextafter(1, 2)), float(math.Nextafter(1.5, 0)),
		float(math.SmallestNonzeroFloat64), float(0x1p-1022), float(math.MaxFloat64), float(math.Nextafter(math.MaxFloat64, 0)), float(0x1p1023),
		float(0x1p52), float(0x1p52 + 1), float(0x1p51 + 0.5), float(0x1p52 - 0.5), float(0x1p53), float(0x1p53 + 2), float(0x1p63), float(0x1p64), float(0x1p511), float(0x1p512), float(0x1p-537),
	}
	for _, x := range out[:len(out):len(out)] {
		out = append(out, minus(x))
	}
	return append(out, num("0"), float(0))
}
