package fddom

import (
	"cmp"

	"hornbeam/api"
	"hornbeam/bigint"
)

// place is one between two integers that follow one another, or one below all
// integers or above all: there a set turns from what is not in it to what is,
// or back. It is told by the integer on either side, as the one on the other
// side may be too long to be reckoned with.
type place struct {
	end  api.Bound
	over bool // just above the end; else just below it
}

func below(b api.Bound) place { return place{end: b} }

func above(b api.Bound) place { return place{end: b, over: true} }

// order tells how two places stand: below 0, 0, above 0.
func order(p, q place) int {
	switch {
	case p.end.Inf != 0 || q.end.Inf != 0:
		return cmp.Compare(side(p.end), side(q.end))
	case p.over == q.over:
		return bigint.Cmp(p.end.N, q.end.N)
	case q.over:
		return -order(q, p)
	}
	if bigint.Cmp(p.end.N, q.end.N) >= 0 {
		return 1
	}
	// There is an integer above p's, so that this one is never too long.
	next, _ := bigint.Add(p.end.N, bigint.From(1))
	return bigint.Cmp(next, q.end.N)
}

// side is -1 (1) of an end below (above) all integers, 0 of one that is there.
func side(b api.Bound) int { return cmp.Compare(b.Inf, 0) }

// low is the end of a range that begins at a place.
func (p place) low() (api.Bound, api.Errno) {
	if p.end.Inf != 0 || !p.over {
		return p.end, api.OK
	}
	n, e := bigint.Add(p.end.N, bigint.From(1))
	return api.Bound{N: n}, e
}

// high is the end of a range that ends at a place.
func (p place) high() (api.Bound, api.Errno) {
	if p.end.Inf != 0 || p.over {
		return p.end, api.OK
	}
	n, e := bigint.Sub(p.end.N, bigint.From(1))
	return api.Bound{N: n}, e
}
