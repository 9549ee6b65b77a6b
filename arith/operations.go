package arith

import (
	"math"
	"slices"

	"hornbeam/api"
	"hornbeam/ball"
	"hornbeam/bigint"
)

func itself[T any](x T) T { return x }

func withoutSign(n api.Int) api.Int {
	if n.Neg {
		return bigint.Neg(n)
	}
	return n
}

// divide is the quotient of any two numbers.
func divide(args []number) (number, error) {
	if args[1].isNought() {
		return number{}, api.ErrIntZero
	}
	if !slices.ContainsFunc(args, isFloat) {
		quo, rem, e := bigint.QuoRem(args[0].integer, args[1].integer)
		if bigint.Sign(rem) == 0 {
			return integerResult(quo, e)
		}
	}
	return floats(args, func(x, y float64) float64 { return x / y })
}

type division func(a, b api.Int) (api.Int, api.Int, api.Errno)

func quotient(by division) func(a, b api.Int) (api.Int, api.Errno) {
	return func(a, b api.Int) (api.Int, api.Errno) {
		quo, _, e := by(a, b)
		return quo, e
	}
}

func remainder(by division) func(a, b api.Int) (api.Int, api.Errno) {
	return func(a, b api.Int) (api.Int, api.Errno) {
		_, rem, e := by(a, b)
		return rem, e
	}
}

// power takes integers.
func power(args []number) (number, error) {
	x, y := args[0].integer, args[1].integer
	if bigint.Bits(x) == 1 {
		// Of 1 and -1 it matters only whether the power is even or odd.
		_, y, _ = bigint.DivMod(y, bigint.From(2))
	}
	if bigint.Sign(y) < 0 {
		return number{}, ball.Type("float", args[0].term())
	}
	n, is := bigint.To(y)
	if !is {
		// But for 0, 1 and -1 this is far too much as well.
		n = math.MaxInt
	}
	return integerResult(bigint.Pow(x, n))
}

// shift is a times 2 to the power of b.
func shift(a, b api.Int) (api.Int, api.Errno) {
	n, is := bigint.To(b)
	if !is {
		// Beyond MaxBits nothing is left to lose, and nothing fits.
		n = bigint.Sign(b) * api.MaxBits
	}
	return bigint.Shift(a, n)
}

// opposite takes an integer.
func opposite(args []number) (number, error) {
	return integerResult(bigint.Not(args[0].integer))
}

func asFloat(args []number) (number, error) {
	x, err := args[0].toFloat()
	if err != nil {
		return number{}, err
	}
	return floatResult(x)
}

func root(args []number) (number, error) {
	x, err := args[0].toFloat()
	switch {
	case err != nil:
		return number{}, err
	case x < 0:
		return number{}, ball.Evaluation("undefined")
	}
	return floatResult(math.Sqrt(x))
}
