package arith_test

import (
	"math"
	"strings"
	"testing"

	"hornbeam/api"
	"hornbeam/sample"
	"hornbeam/tree"
)

// P7.1: the chapter's examples.
func TestExamples(t *testing.T) {
	checkAll(t, map[string]string{
		"1 + 2 * 3": "7", "7 / 2": "3.5", "8 / 2": "4", "-7 // 2": "-3", "-7 div 2": "-4", "-7 mod 2": "1", "-7 rem 2": "-1",
		"2 ^ 100": "1267650600228229401496703205376", "1 ^ -5": "1", "1 << -1": "0", "-1 >> 9": "-1",
		"round(2.5)": "3", "round(-2.5)": "-3", "floor(-0.5)": "-1", "truncate(1.0e20)": "100000000000000000000", "sqrt(2)": "1.4142135623730951",
		"max(1, 1.0)": "1", "min(2, 1.5)": "1.5", "abs(-3)": "3", "sign(-2.5)": "-1.0", "- 0.0": "0.0",
	})
	checkAllThrown(t, map[string]string{
		"2 ^ -1": "type_error(float, 2)", "2.0 ^ 2": "type_error(integer, 2.0)",
		"foo + 1": "type_error(evaluable, foo/0)", "f(_)": "type_error(evaluable, f/1)", "1 + _": "instantiation_error", "_ + foo": "instantiation_error",
		"1 / 0": "evaluation_error(zero_divisor)", "1 / 0.0": "evaluation_error(zero_divisor)", "sqrt(-1)": "evaluation_error(undefined)",
	})
}

// P7.1: numbers are themselves, and the two constants.
func TestNumbersAndConstants(t *testing.T) {
	for _, x := range edges() {
		check(t, x, x)
	}
	check(t, atom("pi"), api.Term{Kind: api.Float, Bits: 0x400921fb54442d18})
	check(t, atom("e"), api.Term{Kind: api.Float, Bits: 0x4005bf0a8b145769})
	checkThrown(t, v(0), instantiation)
	checkThrown(t, v(math.MaxInt), instantiation)
}

// P7.1: each row of the table.
func TestRows(t *testing.T) {
	checkAll(t, map[string]string{
		"+ (5)": "5", "+ (-2.5)": "-2.5", "+ (0.0)": "0.0", "- (5)": "-5", "- (-5)": "5", "- (0)": "0", "- (2.5)": "-2.5",
		"abs(3)": "3", "abs(0)": "0", "abs(-2.5)": "2.5", "abs(2.5)": "2.5", "sign(-9)": "-1", "sign(0)": "0", "sign(9)": "1", "sign(0.0)": "0.0", "sign(5.0e-324)": "1.0",
		"2 + 3": "5", "2 + 0.5": "2.5", "0.5 + 2": "2.5", "0.1 + 0.2": "0.30000000000000004", "2 - 3": "-1", "2 - 0.5": "1.5", "0.5 - 2": "-1.5", "-2 * 3": "-6", "2 * 0.5": "1.0", "0 * 1.5": "0.0",
		"6 / -3": "-2", "-7 / 2": "-3.5", "0 / 5": "0", "6.0 / 3": "2.0", "6 / 3.0": "2.0", "1 / 3": "0.3333333333333333",
		"7 // -2": "-3", "7 rem -2": "1", "7 div -2": "-4", "7 mod -2": "-1", "-8 // 2": "-4", "-8 div 2": "-4", "-8 mod 2": "0", "-8 rem 2": "0",
		"min(1, 2)": "1", "min(2, 1)": "1", "min(1.0, 1)": "1.0", "min(1, 1.0)": "1", "max(1.0, 1)": "1.0", "max(2, 1.5)": "2", "max(1.5, 2)": "2", "min(1.5, 2)": "1.5",
		"2 ** 10": "1024", "0 ^ 0": "1", "0 ^ 3": "0", "5 ^ 0": "1", "-2 ^ 3": "-8", "-2 ** 4": "16", "1 ** -4": "1", "-1 ^ -4": "1", "-1 ^ -5": "-1", "-1 ** -1": "-1", "-1 ^ 5": "-1",
		"1 << 4": "16", "-5 << 1": "-10", "16 << -3": "2", "-7 << -1": "-4", "-7 >> 1": "-4", "7 >> 1": "3", "3 >> -2": "12", "5 >> 0": "5", "5 << 0": "5",
		"12 /\\ 10": "8", "12 \\/ 10": "14", "xor(12, 10)": "6", "-4 /\\ 6": "4", "-4 \\/ 3": "-1", "xor(5, -1)": "-6", "\\ 0": "-1", "\\ (-8)": "7",
		"gcd(12, -18)": "6", "gcd(0, 0)": "0", "gcd(0, -5)": "5", "gcd(7, 0)": "7",
		"float(3)": "3.0", "float(2.5)": "2.5", "float(0)": "0.0", "float(9007199254740993)": "9007199254740992.0", "float(9007199254740995)": "9007199254740996.0",
		"truncate(2.7)": "2", "truncate(-2.7)": "-2", "truncate(5)": "5", "floor(2.7)": "2", "floor(-2.0)": "-2", "floor(-7)": "-7", "ceiling(2.1)": "3", "ceiling(-2.7)": "-2", "ceiling(7)": "7",
		"round(2.4)": "2", "round(0.49999999999999994)": "0", "round(-0.5)": "-1", "round(7)": "7", "round(4503599627370497.0)": "4503599627370497", "integer(2.5)": "3", "integer(-2.5)": "-3", "integer(1.4)": "1", "integer(7)": "7", "integer(0.0)": "0",
		"float_integer_part(2.75)": "2.0", "float_integer_part(-2.75)": "-2.0", "float_integer_part(-7)": "-7", "float_fractional_part(2.75)": "0.75", "float_fractional_part(-2.75)": "-0.75", "float_fractional_part(-7)": "0", "float_fractional_part(1.0e300)": "0.0",
		"sqrt(9)": "3.0", "sqrt(2.25)": "1.5", "sqrt(0)": "0.0", "sqrt(0.0)": "0.0", "sqrt(5.0e-324)": "2.2227587494850775e-162",
		"float(1 << 1000) / 2 ** 1000": "1.0", "max(1 + 1, 2 * 2) - - (3)": "7",
	})
}

// P7.1: -0 is 0, whatever makes it.
func TestNoMinusNought(t *testing.T) {
	for _, x := range []string{
		"- 0.0", "-1 * 0.0", "0.0 * -1.5", "0 / -1.5", "0.0 / -3", "-5.0e-324 / 2", "-5.0e-324 * 0.25", "1.0e-200 * -1.0e-200",
		"float_integer_part(-0.5)", "float_fractional_part(-2.0)", "float_fractional_part(-1.0e300)", "0.0 - 0.0", "1.5 - 1.5", "-0.0 + -0.0", "abs(0.0)", "sign(0.0)", "sqrt(- 0.0)", "+ (0.0)", "float(- 0)",
	} {
		check(t, read(x), float(0))
	}
	for _, x := range []string{"truncate(-0.5)", "ceiling(-0.5)", "round(-0.4)", "integer(-0.4)", "truncate(0.0)", "- 0", "0 * -5", "0 / -5"} {
		check(t, read(x), num("0"))
	}
}

// P7.1: what is no evaluable is told ahead of its arguments' errors, wherever
// only the number of arguments is another one, too.
func TestNotEvaluable(t *testing.T) {
	are := map[place]int{}
	names := map[string]int{}
	for _, p := range places() {
		are[p] = 1
		names[p.name] = 1
	}
	for _, more := range []string{"foo", "", "[]", ".", "{}", "inf", "nan", "max_tagged_integer", "random", "sin", "PI", "E", "is", "=", ",", "\xc3\xa9", strings.Repeat("n", api.MaxName)} {
		names[more] = 1
	}
	args := make([]api.Term, api.MaxArity)
	for i := range args {
		args[i] = v(0)
	}
	for name := range names {
		for arity := range api.MaxArity + 1 {
			p := place{name, arity}
			if are[p] == 0 {
				checkThrown(t, p.of(args...), notEvaluable(name, arity))
			} else if arity > 0 {
				checkThrown(t, p.of(args...), instantiation)
			}
		}
	}
	checkThrown(t, read("[1]"), notEvaluable(".", 2))
	checkThrown(t, read("f(1/0, _)"), notEvaluable("f", 2))
	checkThrown(t, read("{1}"), notEvaluable("{}", 1))
}

// P7.1: of an evaluable's arguments the first error is told, ahead of its own.
func TestFirstError(t *testing.T) {
	wrong := map[string]api.Term{
		"_": instantiation, "foo": notEvaluable("foo", 0), "g(1)": notEvaluable("g", 1), "1/0": zeroDivisor, "sqrt(-1)": undefined,
		"1 << 4096": manyBits, "1.0e300 * 1.0e300": overflow, "2 ^ -1": wrongType("float", num("2")), "\\ 1.5": wrongType("integer", float(1.5)),
	}
	for _, p := range places() {
		for x, want := range wrong {
			if p.arity == 0 {
				continue
			}
			checkThrown(t, p.of(read(x), num("0")), want)
			if p.arity == 2 {
				checkThrown(t, p.of(float(0.5), read(x)), want)
				for y := range wrong {
					checkThrown(t, p.of(read(x), read(y)), want)
				}
			}
		}
	}
}

// P7.1: "integers" tells the first value that is a float, ahead of all else.
func TestIntegersAlone(t *testing.T) {
	for _, p := range integerPlaces() {
		half := read("0.25 + 0.25")
		checkThrown(t, p.of(half, num("0")), wrongType("integer", float(0.5)))
		checkThrown(t, p.of(float(1), float(0)), wrongType("integer", float(1)))
		checkThrown(t, p.of(float(-2.5), num("-1")), wrongType("integer", float(-2.5)))
		if p.arity == 2 {
			checkThrown(t, p.of(num("2"), float(0)), wrongType("integer", float(0)))
			checkThrown(t, p.of(num("2"), half), wrongType("integer", float(0.5)))
			checkThrown(t, p.of(power(4096, -1), float(1e300)), wrongType("integer", float(1e300)))
		}
	}
}

// P7.1: what divides by nought, of either kind.
func TestZeroDivisor(t *testing.T) {
	for _, x := range edges() {
		checkThrown(t, f("/", x, num("0")), zeroDivisor)
		checkThrown(t, f("/", x, float(0)), zeroDivisor)
		if x.Kind == api.Integer {
			for _, name := range []string{"//", "rem", "div", "mod"} {
				checkThrown(t, f(name, x, num("0")), zeroDivisor)
			}
		}
	}
}

// P7.1: an integer of MaxBits bits may come of it, and of no more.
func TestBits(t *testing.T) {
	most := power(4096, -1)
	check(t, f("+", power(4096, -2), num("1")), most)
	check(t, f("-", minus(most)), most)
	check(t, f("*", power(4095, 0), num("1")), power(4095, 0))
	check(t, f("^", num("2"), num("4095")), power(4095, 0))
	check(t, f("<<", num("1"), num("4095")), power(4095, 0))
	check(t, f(">>", num("-1"), num("-4095")), minus(power(4095, 0)))
	check(t, f("\\", minus(most)), power(4096, -2))
	check(t, f("//", most, num("-1")), minus(most))
	check(t, f("abs", minus(most)), most)
	for _, x := range []api.Term{
		f("+", most, num("1")), f("-", minus(most), num("1")), f("*", power(4095, 0), num("-2")), f("*", most, most),
		f("^", num("2"), num("4096")), f("**", num("-2"), num("4096")), f("^", most, num("2")), f("^", num("2"), power(63, 0)), f("^", num("-3"), most), f("**", most, most),
		f("<<", num("1"), num("4096")), f("<<", num("-1"), most), f(">>", num("1"), minus(most)), f("<<", num("1"), power(63, 0)), f(">>", num("1"), minus(power(63, 0))),
		f("\\", most), f("xor", most, num("-1")),
	} {
		checkThrown(t, x, manyBits)
	}
	for _, great := range []api.Term{power(63, 0), power(64, 0), power(64, 1), most} {
		check(t, f("^", num("0"), great), num("0"))
		check(t, f("^", num("1"), minus(great)), num("1"))
		check(t, f(">>", most, great), num("0"))
		check(t, f("<<", minus(most), minus(great)), num("-1"))
		check(t, f("<<", num("0"), great), num("0"))
		check(t, f(">>", num("0"), minus(great)), num("0"))
		checkThrown(t, f("^", num("0"), minus(great)), wrongType("float", num("0")))
	}
	check(t, f("^", num("-1"), most), num("-1"))
	check(t, f("**", num("-1"), minus(power(64, 0))), num("1"))
	check(t, f("**", num("-1"), minus(power(64, 1))), num("-1"))
}

// P7.1: what is too great for a float, made one or come of one.
func TestOverflow(t *testing.T) {
	great := power(1024, 0)
	for _, x := range []api.Term{
		f("float", great), f("float", minus(great)), f("sqrt", great), f("sqrt", minus(great)),
		f("+", great, float(0)), f("+", float(0), great), f("-", float(1), great), f("*", great, float(0)), f("*", float(0), great), f("/", great, float(2)), f("/", float(2), great), f("/", great, num("3")), f("/", num("3"), great), f("/", num("1"), power(4096, -1)),
		f("+", float(math.MaxFloat64), float(math.MaxFloat64)), f("-", float(-math.MaxFloat64), float(1e300)), f("*", float(1e200), float(-1e200)), f("/", float(1e300), float(1e-300)), f("/", float(-1), float(5e-324)), f("/", num("1"), float(5e-324)),
	} {
		checkThrown(t, x, overflow)
	}
	check(t, f("/", great, num("2")), power(1023, 0))
	check(t, f("/", great, great), num("1"))
	check(t, f("max", great, float(1e300)), great)
	check(t, f("truncate", float(math.MaxFloat64)), truncated(math.MaxFloat64))
	check(t, f("float", truncated(math.MaxFloat64)), float(math.MaxFloat64))
}

func truncated(x float64) api.Term {
	return num(floorOf(valueOf(float(x)).Rat).String())
}

// checkModel holds an expression against the model.
func checkModel(t *testing.T, x api.Term) {
	t.Helper()
	want, ball := expected(x)
	if ball != nil {
		checkThrown(t, x, *ball)
		return
	}
	check(t, x, want.term())
}

// P7.1: each evaluable of all edges.
func TestEdges(t *testing.T) {
	l := edges()
	for _, p := range places() {
		for _, x := range l {
			checkModel(t, p.of(x, x))
			for _, y := range l {
				if p.arity == 2 {
					checkModel(t, p.of(x, y))
				}
			}
		}
	}
}

// thrownNumber is one that may have any bits.
func thrownNumber(d *sample.Dice, few []api.Term) api.Term {
	switch d.Next(8) {
	case 0:
		return sample.Throw(d, few...)
	case 1, 2:
		return tree.Int(d.Next(21) - 10)
	case 3:
		return tree.Int((d.Next(1<<30) - 1<<29) * d.Next(1<<20))
	case 4:
		return float(float64(d.Next(81)-40) / 4)
	case 5:
		return float(math.Ldexp(float64(d.Next(1<<30)-1<<29), d.Next(120)-60) + 0)
	}
	for {
		x := math.Float64frombits(uint64(d.Next(1<<31))<<33 ^ uint64(d.Next(1<<31))<<5)
		if !math.IsInf(x, 0) && !math.IsNaN(x) && x != 0 {
			return float(x)
		}
	}
}

func thrownExpression(d *sample.Dice, few []api.Term, depth int) api.Term {
	if depth == 0 || d.Next(6) == 0 {
		if d.Next(60) == 0 {
			return sample.Throw(d, v(0), atom("foo"), f("foo", v(1)))
		}
		return thrownNumber(d, few)
	}
	one := func() api.Term { return thrownExpression(d, few, depth-1) }
	return sample.Throw(d, places()...).of(one(), one())
}

// P7.1: numbers and expressions that are thrown.
func TestThrownExpressions(t *testing.T) {
	d := sample.Dice(71)
	few := edges()
	for range 60000 {
		checkModel(t, sample.Throw(&d, places()...).of(thrownNumber(&d, few), thrownNumber(&d, few)))
	}
	for range 20000 {
		checkModel(t, thrownExpression(&d, few, 2+d.Next(3)))
	}
}

// P7.1: floats between which and a half, an integer or a power of two there is
// nothing else, are rounded as they are.
func TestRounding(t *testing.T) {
	for power := -3; power < 56; power++ {
		for _, more := range []float64{0, 0.5, 1, 1.5} {
			x := math.Ldexp(1, power) + more
			for _, y := range []float64{x, math.Nextafter(x, 0), math.Nextafter(x, math.Inf(1))} {
				for _, name := range []string{"truncate", "floor", "ceiling", "round", "integer", "float_integer_part", "float_fractional_part"} {
					checkModel(t, f(name, float(y)))
					checkModel(t, f(name, float(-y)))
				}
			}
		}
	}
}

// chain is an evaluable of itself and one, of so many nodes.
func chain(name string, first, other api.Term, nodes int, left bool) api.Term {
	x := first
	for n := 1; n+2 <= nodes; n += 2 {
		if left {
			x = f(name, x, other)
		} else {
			x = f(name, other, x)
		}
	}
	return x
}

// R1: the greatest expressions are reckoned out.
func TestGreatExpressions(t *testing.T) {
	check(t, chain("+", num("0"), num("1"), api.MaxNodes, true), num("1999"))
	check(t, chain("+", num("0"), num("1"), api.MaxNodes, false), num("1999"))
	check(t, chain("*", num("2"), num("4"), api.MaxNodes, true), power(3999, 0))
	checkThrown(t, chain("-", num("0"), v(0), api.MaxNodes, false), instantiation)
	x := num("1")
	for range api.MaxNodes - 1 {
		x = f("-", x)
	}
	check(t, x, num("-1"))
	most := power(4096, -1)
	for _, left := range []bool{true, false} {
		check(t, chain("gcd", most, most, api.MaxNodes, left), most)
		check(t, chain("max", most, float(1), api.MaxNodes, left), most)
		checkThrown(t, chain("**", most, most, api.MaxNodes, left), manyBits)
	}
}
