package fddom

import (
	"slices"

	"hornbeam/api"
)

// Inter, Union, Minus are of two sets.
func Inter(a, b []api.Range) ([]api.Range, api.Errno) {
	return merge(a, b, func(inA, inB bool) bool { return inA && inB })
}

func Union(a, b []api.Range) ([]api.Range, api.Errno) {
	return merge(a, b, func(inA, inB bool) bool { return inA || inB })
}

func Minus(a, b []api.Range) ([]api.Range, api.Errno) {
	return merge(a, b, func(inA, inB bool) bool { return inA && !inB })
}

// merge is the set of all integers of which is says so, told whether they are
// in a and whether they are in b. What is in neither may not be in it.
func merge(a, b []api.Range, is func(inA, inB bool) bool) ([]api.Range, api.Errno) {
	sets, e := take(api.Int{}, a, b)
	if e != api.OK {
		return nil, e
	}
	x, y := turns(sets[0]), turns(sets[1])
	out := make([]place, 0, len(x)+len(y))
	for isIn := false; len(x)+len(y) > 0; {
		var at place
		way := ahead(x, y)
		if way <= 0 {
			at, x = x[0], x[1:]
		}
		if way >= 0 {
			at, y = y[0], y[1:]
		}
		// A set that still turns an odd number of times is within a range.
		if in := is(len(x)%2 == 1, len(y)%2 == 1); in != isIn {
			out, isIn = append(out, at), in
		}
	}
	return between(out)
}

// turns are the places at which a set, normal, begins and ends, rising.
func turns(s []api.Range) []place {
	out := make([]place, 0, 2*len(s))
	for _, r := range s {
		out = append(out, below(r.Lo), above(r.Hi))
	}
	return out
}

// ahead tells which of two lists of places, not both empty, begins ahead of the
// other: below 0 the one, above 0 the other, 0 neither.
func ahead(x, y []place) int {
	switch {
	case len(y) == 0:
		return -1
	case len(x) == 0:
		return 1
	}
	return order(x[0], y[0])
}

// between is the set that turns at some places.
func between(l []place) ([]api.Range, api.Errno) {
	out := make([]api.Range, 0, len(l)/2)
	for pair := range slices.Chunk(l, 2) {
		lo, e := pair[0].low()
		if e != api.OK {
			return nil, e
		}
		hi, e := pair[1].high()
		if e != api.OK {
			return nil, e
		}
		out = append(out, api.Range{Lo: lo, Hi: hi})
	}
	return give(out)
}
