package arith

import (
	"cmp"
	"math"

	"hornbeam/api"
	"hornbeam/bigint"
)

// The bits of two constants.
const (
	piBits = 0x400921fb54442d18
	eBits  = 0x4005bf0a8b145769
)

// evaluable reckons out a value from its arguments' values, which are as many
// as its place says.
type evaluable func(args []number) (number, error)

// place is where an evaluable stands in the table.
type place struct {
	name  string
	arity int
}

// evaluables is the table of all.
func evaluables() map[place]evaluable {
	return map[place]evaluable{
		{"pi", 0}: constant(piBits),
		{"e", 0}:  constant(eBits),

		{"+", 1}:    either(itself[api.Int], itself[float64]),
		{"-", 1}:    either(bigint.Neg, func(x float64) float64 { return -x }),
		{"abs", 1}:  either(withoutSign, math.Abs),
		{"sign", 1}: either(func(n api.Int) api.Int { return bigint.From(bigint.Sign(n)) }, func(x float64) float64 { return float64(cmp.Compare(x, 0)) }),

		{"+", 2}: both(bigint.Add, func(x, y float64) float64 { return x + y }),
		{"-", 2}: both(bigint.Sub, func(x, y float64) float64 { return x - y }),
		{"*", 2}: both(bigint.Mul, func(x, y float64) float64 { return x * y }),
		{"/", 2}: divide,

		{"//", 2}:  integers(quotient(bigint.QuoRem)),
		{"rem", 2}: integers(remainder(bigint.QuoRem)),
		{"div", 2}: integers(quotient(bigint.DivMod)),
		{"mod", 2}: integers(remainder(bigint.DivMod)),

		{"min", 2}: choice(func(way int) bool { return way <= 0 }),
		{"max", 2}: choice(func(way int) bool { return way >= 0 }),

		{"^", 2}:  whole(power),
		{"**", 2}: whole(power),

		{">>", 2}:  integers(func(a, b api.Int) (api.Int, api.Errno) { return shift(a, bigint.Neg(b)) }),
		{"<<", 2}:  integers(shift),
		{"/\\", 2}: integers(bigint.And),
		{"\\/", 2}: integers(bigint.Or),
		{"xor", 2}: integers(bigint.Xor),
		{"\\", 1}:  whole(opposite),
		{"gcd", 2}: integers(bigint.Gcd),

		{"float", 1}:    asFloat,
		{"truncate", 1}: rounded(math.Trunc),
		{"floor", 1}:    rounded(math.Floor),
		{"ceiling", 1}:  rounded(math.Ceil),
		{"round", 1}:    rounded(math.Round),
		{"integer", 1}:  rounded(math.Round),

		{"float_integer_part", 1}:    either(itself[api.Int], math.Trunc),
		{"float_fractional_part", 1}: either(func(api.Int) api.Int { return api.Int{} }, func(x float64) float64 { return x - math.Trunc(x) }),
		{"sqrt", 1}:                  root,
	}
}
