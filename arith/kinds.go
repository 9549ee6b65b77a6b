package arith

import (
	"math"
	"slices"

	"hornbeam/api"
	"hornbeam/ball"
)

// What kinds of evaluables have in common.

func constant(bits uint64) evaluable {
	return func([]number) (number, error) { return floatResult(math.Float64frombits(bits)) }
}

// either is one of an integer or a float.
func either(integer func(n api.Int) api.Int, float func(x float64) float64) evaluable {
	return func(args []number) (number, error) {
		x := args[0]
		if x.isFloat {
			return floatResult(float(x.float))
		}
		return number{integer: integer(x.integer)}, nil
	}
}

// both is one of two integers, or else of two floats.
func both(integer func(a, b api.Int) (api.Int, api.Errno), float func(x, y float64) float64) evaluable {
	return func(args []number) (number, error) {
		if slices.ContainsFunc(args, isFloat) {
			return floats(args, float)
		}
		return integerResult(integer(args[0].integer, args[1].integer))
	}
}

// whole is one of integers alone.
func whole(op evaluable) evaluable {
	return func(args []number) (number, error) {
		if i := slices.IndexFunc(args, isFloat); i >= 0 {
			return number{}, ball.Type("integer", args[i].term())
		}
		return op(args)
	}
}

// integers is one of two integers alone that bigint reckons out.
func integers(op func(a, b api.Int) (api.Int, api.Errno)) evaluable {
	return whole(func(args []number) (number, error) {
		return integerResult(op(args[0].integer, args[1].integer))
	})
}

// rounded is one that makes an integer of a float.
func rounded(way func(x float64) float64) evaluable {
	return func(args []number) (number, error) {
		x := args[0]
		if !x.isFloat {
			return x, nil
		}
		return number{integer: integerOf(way(x.float))}, nil
	}
}

// choice is one that takes the first of two numbers, if it likes how they
// stand, else the second one.
func choice(likes func(way int) bool) evaluable {
	return func(args []number) (number, error) {
		if likes(order(args[0], args[1])) {
			return args[0], nil
		}
		return args[1], nil
	}
}

// floats takes two numbers as floats.
func floats(args []number, op func(x, y float64) float64) (number, error) {
	x, err := args[0].toFloat()
	if err != nil {
		return number{}, err
	}
	y, err := args[1].toFloat()
	if err != nil {
		return number{}, err
	}
	return floatResult(op(x, y))
}

func isFloat(x number) bool { return x.isFloat }
