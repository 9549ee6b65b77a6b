package term

import (
	"cmp"
	"math"
	"slices"
	"strings"

	"hornbeam/api"
)

// Compare tells how two terms stand in the standard order: below 0, 0, above 0.
func Compare(a, b api.Term) (int, api.Errno) {
	if e := checkAll(a, b); e != api.OK {
		return 0, e
	}
	return standard(a, b), api.OK
}

// Sort puts terms into the standard order; once: each once.
func Sort(l []api.Term, once bool) ([]api.Term, api.Errno) {
	if e := checkAll(l...); e != api.OK {
		return nil, e
	}
	out := sorted(l, func(t api.Term) api.Term { return t })
	if once {
		out = slices.CompactFunc(out, same)
	}
	return out, api.OK
}

// KeySort puts pairs into the standard order of their keys.
func KeySort(l []api.Term) ([]api.Term, api.Errno) {
	if e := checkAll(l...); e != api.OK {
		return nil, e
	}
	for _, t := range l {
		if !isCompound(t, "-", 2) {
			return nil, api.ErrTermList
		}
	}
	return sorted(l, func(pair api.Term) api.Term { return pair.Args[0] }), api.OK
}

// sorted is some terms by their keys, those of one key as they stood.
func sorted(l []api.Term, key func(t api.Term) api.Term) []api.Term {
	out := copyAll(l)
	slices.SortStableFunc(out, func(a, b api.Term) int { return standard(key(a), key(b)) })
	return out
}

func same(a, b api.Term) bool { return standard(a, b) == 0 }

func standard(a, b api.Term) int { return order(a, b, cmp.Compare[int]) }

// order is the standard order, but for variables, of which variables tells.
func order(a, b api.Term, variables func(x, y int) int) int {
	if way := cmp.Compare(rank(a.Kind), rank(b.Kind)); way != 0 {
		return way
	}
	switch a.Kind {
	case api.Var:
		return variables(a.Var, b.Var)
	case api.Float:
		return cmp.Compare(math.Float64frombits(a.Bits), math.Float64frombits(b.Bits))
	case api.Integer:
		return orderNums(a.Num, b.Num)
	}
	// Of atoms, which have no arguments, the names alone are left to tell.
	if way := cmp.Or(cmp.Compare(len(a.Args), len(b.Args)), cmp.Compare(a.Name, b.Name)); way != 0 {
		return way
	}
	for i := range a.Args {
		if way := order(a.Args[i], b.Args[i], variables); way != 0 {
			return way
		}
	}
	return 0
}

// rank is where the terms of a kind stand among those of others.
func rank(kind int) int {
	switch kind {
	case api.Var:
		return 0
	case api.Float:
		return 1
	case api.Integer:
		return 2
	case api.Atom:
		return 3
	}
	return 4
}

func orderNums(a, b string) int {
	x, negX := strings.CutPrefix(a, "-")
	y, negY := strings.CutPrefix(b, "-")
	switch {
	case negX && negY:
		return orderDigits(y, x)
	case negX:
		return -1
	case negY:
		return 1
	}
	return orderDigits(x, y)
}

// orderDigits takes digits without noughts ahead, so that more of them make
// more.
func orderDigits(x, y string) int {
	return cmp.Or(cmp.Compare(len(x), len(y)), cmp.Compare(x, y))
}
