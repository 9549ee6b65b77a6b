package arith

import (
	"cmp"
	"math"

	"hornbeam/api"
	"hornbeam/bigint"
	"hornbeam/tree"
)

// number is a value: a float, or else an integer.
type number struct {
	isFloat bool
	float   float64
	integer api.Int
}

// numberOf is the number that a term is; false: it is none.
func numberOf(t api.Term) (number, bool) {
	switch t.Kind {
	case api.Integer:
		n, _ := bigint.Parse(t.Num, 10)
		return number{integer: n}, true
	case api.Float:
		return number{isFloat: true, float: math.Float64frombits(t.Bits)}, true
	}
	return number{}, false
}

// integerResult is an integer that bigint made, or its error.
func integerResult(n api.Int, e api.Errno) (number, error) {
	if e != api.OK {
		return number{}, e
	}
	return number{integer: n}, nil
}

// floatResult is a float that was reckoned out.
func floatResult(f float64) (number, error) {
	switch {
	case math.IsInf(f, 0) || math.IsNaN(f):
		return number{}, api.ErrIntFloat
	case f == 0:
		// It may be -0, which no term is.
		f = 0
	}
	return number{isFloat: true, float: f}, nil
}

func (x number) term() api.Term {
	if x.isFloat {
		return tree.Float(math.Float64bits(x.float))
	}
	text, _ := bigint.Text(x.integer, 10)
	return tree.Digits(text)
}

func (x number) toFloat() (float64, error) {
	if x.isFloat {
		return x.float, nil
	}
	bits, e := bigint.ToFloat(x.integer)
	if e != api.OK {
		return 0, e
	}
	return math.Float64frombits(bits), nil
}

func (x number) isNought() bool {
	return x.float == 0 && bigint.Sign(x.integer) == 0
}

// order tells how two numbers stand, exactly.
func order(x, y number) int {
	switch {
	case x.isFloat && y.isFloat:
		return cmp.Compare(x.float, y.float)
	case x.isFloat:
		return -order(y, x)
	case y.isFloat:
		// The float is taken apart, as the integer might lose digits as a float.
		_, part := math.Modf(y.float)
		return cmp.Or(bigint.Cmp(x.integer, integerOf(y.float)), cmp.Compare(0, part))
	}
	return bigint.Cmp(x.integer, y.integer)
}

// integerOf is a float cut towards nought.
func integerOf(f float64) api.Int {
	n, _ := bigint.OfFloat(math.Float64bits(f))
	return n
}
