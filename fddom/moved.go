package fddom

import (
	"hornbeam/api"
	"hornbeam/bigint"
)

// Shift is a set, each integer so much greater.
func Shift(d []api.Range, n api.Int) ([]api.Range, api.Errno) {
	sets, e := take(n, d)
	if e != api.OK {
		return nil, e
	}
	sum := func(a api.Int) (api.Int, api.Errno) { return bigint.Add(a, n) }
	return moved(sets[0], 1, sum, sum)
}

// Scale is a set, each range between its ends times an integer.
func Scale(d []api.Range, n api.Int) ([]api.Range, api.Errno) {
	sets, e := take(n, d)
	if e != api.OK {
		return nil, e
	}
	product := func(a api.Int) (api.Int, api.Errno) { return bigint.Mul(a, n) }
	return moved(sets[0], bigint.Sign(n), product, product)
}

// Parts are the integers that are in a set when they are multiplied by one.
func Parts(d []api.Range, n api.Int) ([]api.Range, api.Errno) {
	sets, e := take(n, d)
	if e != api.OK {
		return nil, e
	}
	if way := bigint.Sign(n); way != 0 {
		down := func(a api.Int) (api.Int, api.Errno) { return cutDown(a, n) }
		up := func(a api.Int) (api.Int, api.Errno) { return cutUp(a, n) }
		return moved(sets[0], way, up, down)
	}
	if has(sets[0], api.Int{}) {
		return All(), api.OK
	}
	return nil, api.OK
}

// cutDown is a quotient, cut downwards.
func cutDown(a, n api.Int) (api.Int, api.Errno) {
	quo, _, e := bigint.DivMod(a, n)
	return quo, e
}

func cutUp(a, n api.Int) (api.Int, api.Errno) {
	quo, e := cutDown(bigint.Neg(a), n)
	return bigint.Neg(quo), e
}

// moved is what the ranges of a set become where toLo makes their low ends and
// toHi their high ends: of the same ones, or, if way is below 0, of the other
// ones. An end that is not there is way times what it was.
func moved(s []api.Range, way int, toLo, toHi func(a api.Int) (api.Int, api.Errno)) ([]api.Range, api.Errno) {
	var out []api.Range
	for _, r := range s {
		if way < 0 {
			r.Lo, r.Hi = r.Hi, r.Lo
		}
		lo, e := movedEnd(r.Lo, way, toLo)
		if e != api.OK {
			return nil, e
		}
		hi, e := movedEnd(r.Hi, way, toHi)
		if e != api.OK {
			return nil, e
		}
		out = append(out, api.Range{Lo: lo, Hi: hi})
	}
	return give(normal(out))
}

func movedEnd(b api.Bound, way int, to func(a api.Int) (api.Int, api.Errno)) (api.Bound, api.Errno) {
	if b.Inf != 0 {
		return api.Bound{Inf: way * side(b)}, api.OK
	}
	n, e := to(b.N)
	return api.Bound{N: n}, e
}
