package arith_test

import (
	"math"
	"math/big"

	"hornbeam/api"
)

// The model reckons with fractions, exactly, and rounds what comes of it; it
// is written from the chapter's words.

// value is a number: a fraction, and whether it is a float.
type value struct {
	*big.Rat
	float bool
}

// Nothing at all, where there is a ball.
var none = value{}

func valueOf(x api.Term) value {
	if x.Kind == api.Float {
		return value{new(big.Rat).SetFloat64(math.Float64frombits(x.Bits)), true}
	}
	r, _ := new(big.Rat).SetString(x.Num)
	return value{r, false}
}

func (x value) term() api.Term {
	if x.float {
		near, _ := x.Float64()
		return float(near + 0)
	}
	return num(x.Num().String())
}

// nearest rounds to a float.
func nearest(r *big.Rat) (value, *api.Term) {
	near, _ := r.Float64()
	if math.IsInf(near, 0) {
		return none, &overflow
	}
	return value{new(big.Rat).SetFloat64(near), true}, nil
}

func whole(n *big.Int) (value, *api.Term) {
	if n.BitLen() > api.MaxBits {
		return none, &manyBits
	}
	return value{new(big.Rat).SetInt(n), false}, nil
}

func ofInt(n int64) value { return value{new(big.Rat).SetInt64(n), false} }

// floorOf is the greatest integer that is not above.
func floorOf(r *big.Rat) *big.Int { return new(big.Int).Div(r.Num(), r.Denom()) }

// expected is what the chapter says of an expression.
func expected(t api.Term) (value, *api.Term) {
	switch t.Kind {
	case api.Integer, api.Float:
		return valueOf(t), nil
	case api.Var:
		return none, &instantiation
	}
	found := false
	for _, p := range places() {
		found = found || p == place{t.Name, len(t.Args)}
	}
	if !found {
		ball := notEvaluable(t.Name, len(t.Args))
		return none, &ball
	}
	var args []value
	for _, part := range t.Args {
		x, ball := expected(part)
		if ball != nil {
			return none, ball
		}
		args = append(args, x)
	}
	return expectedOf(place{t.Name, len(t.Args)}, args)
}

func expectedOf(p place, args []value) (value, *api.Term) {
	for _, q := range integerPlaces() {
		if p == q {
			return expectedWhole(p, args)
		}
	}
	switch p.arity {
	case 0:
		return map[string]value{"pi": valueOf(float(math.Pi)), "e": valueOf(float(math.E))}[p.name], nil
	case 1:
		return expectedOne(p.name, args[0])
	}
	return expectedTwo(p.name, args[0], args[1])
}

func expectedWhole(p place, args []value) (value, *api.Term) {
	for _, x := range args {
		if x.float {
			ball := wrongType("integer", x.term())
			return none, &ball
		}
	}
	x := args[0].Num()
	if p.arity == 1 {
		return whole(new(big.Int).Not(x))
	}
	y := args[1].Num()
	quotients := map[string]func(z, x, y *big.Int) *big.Int{"//": (*big.Int).Quo, "rem": (*big.Int).Rem}
	bits := map[string]func(z, x, y *big.Int) *big.Int{"/\\": (*big.Int).And, "\\/": (*big.Int).Or, "xor": (*big.Int).Xor}
	switch p.name {
	case "//", "rem", "div", "mod":
		if y.Sign() == 0 {
			return none, &zeroDivisor
		}
		if op := quotients[p.name]; op != nil {
			return whole(op(new(big.Int), x, y))
		}
		down := floorOf(new(big.Rat).SetFrac(x, y))
		if p.name == "div" {
			return whole(down)
		}
		return whole(new(big.Int).Sub(x, new(big.Int).Mul(down, y)))
	case "gcd":
		return whole(new(big.Int).GCD(nil, nil, new(big.Int).Abs(x), new(big.Int).Abs(y)))
	case "^", "**":
		return expectedPower(x, y)
	case "<<":
		return expectedShift(x, y)
	case ">>":
		return expectedShift(x, new(big.Int).Neg(y))
	}
	return whole(bits[p.name](new(big.Int), x, y))
}

func expectedPower(x, y *big.Int) (value, *api.Term) {
	one := x.CmpAbs(big.NewInt(1)) == 0
	switch {
	case one && (x.Sign() > 0 || y.Bit(0) == 0):
		return ofInt(1), nil
	case one:
		return ofInt(-1), nil
	case y.Sign() < 0:
		ball := wrongType("float", num(x.String()))
		return none, &ball
	case y.Sign() == 0:
		return ofInt(1), nil
	case x.Sign() == 0:
		return ofInt(0), nil
	case new(big.Int).Mul(y, big.NewInt(int64(x.BitLen()-1))).Cmp(big.NewInt(api.MaxBits)) >= 0:
		// It is at least 2 to the power of that, which the model need not make.
		return none, &manyBits
	}
	return whole(new(big.Int).Exp(x, y, nil))
}

func expectedShift(x, y *big.Int) (value, *api.Term) {
	far := y.CmpAbs(big.NewInt(2*api.MaxBits)) > 0
	switch {
	case x.Sign() == 0:
		return ofInt(0), nil
	case far && y.Sign() > 0:
		return none, &manyBits
	case far && x.Sign() > 0:
		return ofInt(0), nil
	case far:
		return ofInt(-1), nil
	}
	times := new(big.Int).Exp(big.NewInt(2), new(big.Int).Abs(y), nil)
	if y.Sign() < 0 {
		return whole(floorOf(new(big.Rat).SetFrac(x, times)))
	}
	return whole(times.Mul(times, x))
}

func expectedOne(name string, x value) (value, *api.Term) {
	half := big.NewRat(1, 2)
	out := func(r *big.Rat) (value, *api.Term) { return value{r, x.float}, nil }
	cut := func() *big.Rat {
		down := floorOf(new(big.Rat).Abs(x.Rat))
		return new(big.Rat).SetInt(down.Mul(down, big.NewInt(int64(x.Sign()))))
	}
	switch name {
	case "+":
		return x, nil
	case "-":
		return out(new(big.Rat).Neg(x.Rat))
	case "abs":
		return out(new(big.Rat).Abs(x.Rat))
	case "sign":
		return out(new(big.Rat).SetInt64(int64(x.Sign())))
	case "float_integer_part":
		return out(cut())
	case "float_fractional_part":
		return out(new(big.Rat).Sub(x.Rat, cut()))
	case "truncate":
		return whole(cut().Num())
	case "floor":
		return whole(floorOf(x.Rat))
	case "ceiling":
		up := floorOf(new(big.Rat).Neg(x.Rat))
		return whole(up.Neg(up))
	case "round", "integer":
		away := floorOf(new(big.Rat).Add(new(big.Rat).Abs(x.Rat), half))
		return whole(away.Mul(away, big.NewInt(int64(x.Sign()))))
	}
	near, ball := nearest(x.Rat)
	if ball != nil || name == "float" {
		return near, ball
	}
	return expectedRoot(near)
}

// expectedRoot goes down to the root bit by bit.
func expectedRoot(x value) (value, *api.Term) {
	switch x.Sign() {
	case -1:
		return none, &undefined
	case 0:
		return x, nil
	}
	// A power of 4 makes it an integer whose root has far more bits than a
	// float: what is left of the root turns no rounding, but for one bit that
	// says that there is some.
	const scale = 1200
	n := new(big.Int).Lsh(x.Num(), 2*scale)
	n.Quo(n, x.Denom())
	root := new(big.Int).Sqrt(n)
	root.Lsh(root, 1)
	if new(big.Int).Mul(root, root).Cmp(new(big.Int).Lsh(n, 2)) != 0 {
		root.SetBit(root, 0, 1)
	}
	return nearest(new(big.Rat).SetFrac(root, new(big.Int).Lsh(big.NewInt(1), scale+1)))
}

func expectedTwo(name string, x, y value) (value, *api.Term) {
	switch name {
	case "min":
		if x.Cmp(y.Rat) <= 0 {
			return x, nil
		}
		return y, nil
	case "max":
		if x.Cmp(y.Rat) >= 0 {
			return x, nil
		}
		return y, nil
	case "/":
		if y.Sign() == 0 {
			return none, &zeroDivisor
		}
		if quo := new(big.Rat).Quo(x.Rat, y.Rat); !x.float && !y.float && quo.IsInt() {
			return whole(quo.Num())
		}
	}
	op := map[string]func(z, x, y *big.Rat) *big.Rat{"+": (*big.Rat).Add, "-": (*big.Rat).Sub, "*": (*big.Rat).Mul, "/": (*big.Rat).Quo}[name]
	if name != "/" && !x.float && !y.float {
		return whole(op(new(big.Rat), x.Rat, y.Rat).Num())
	}
	a, ball := nearest(x.Rat)
	if ball != nil {
		return none, ball
	}
	b, ball := nearest(y.Rat)
	if ball != nil {
		return none, ball
	}
	return nearest(op(new(big.Rat), a.Rat, b.Rat))
}
