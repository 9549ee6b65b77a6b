package fddom

import (
	"slices"

	"hornbeam/api"
	"hornbeam/bigint"
)

// take is the sets that are handed in beside an integer, normal but for the
// integers in them, which are those that were handed in. Where a call takes no
// integer beside the sets, nought stands for it.
func take(n api.Int, sets ...[]api.Range) ([][]api.Range, api.Errno) {
	if isLong(n) || slices.ContainsFunc(sets, hasLong) {
		return nil, api.ErrIntLong
	}
	out := make([][]api.Range, len(sets))
	for i, l := range sets {
		out[i] = normal(l)
		if len(out[i]) > api.MaxRanges {
			return nil, api.ErrDomMany
		}
	}
	return out, api.OK
}

func hasLong(l []api.Range) bool {
	return slices.ContainsFunc(l, func(r api.Range) bool { return isLongBound(r.Lo) || isLongBound(r.Hi) })
}

func isLongBound(b api.Bound) bool { return b.Inf == 0 && isLong(b.N) }

func isLong(n api.Int) bool { return bigint.Bits(n) > api.MaxBits }

// normal is the ranges that have an integer, rising; those between which none
// is missing are made one.
func normal(l []api.Range) []api.Range {
	l = slices.DeleteFunc(slices.Clone(l), isNone)
	slices.SortFunc(l, func(r, s api.Range) int { return order(below(r.Lo), below(s.Lo)) })
	// What is put out never stands behind what is still to be read.
	out := l[:0]
ranges:
	for _, r := range l {
		if len(out) > 0 {
			last := &out[len(out)-1]
			switch {
			case order(above(r.Hi), above(last.Hi)) <= 0:
				continue ranges
			case order(below(r.Lo), above(last.Hi)) <= 0:
				last.Hi = r.Hi
				continue ranges
			}
		}
		out = append(out, r)
	}
	return out
}

func isNone(r api.Range) bool { return order(above(r.Hi), below(r.Lo)) <= 0 }

func isEndless(r api.Range) bool { return r.Lo.Inf != 0 || r.Hi.Inf != 0 }

// give is a set, normal, as it goes out: no integer of it shares memory with
// another one, or with what was handed in.
func give(s []api.Range) ([]api.Range, api.Errno) {
	if len(s) > api.MaxRanges {
		return nil, api.ErrDomMany
	}
	out := make([]api.Range, len(s))
	for i, r := range s {
		out[i] = api.Range{Lo: giveBound(r.Lo), Hi: giveBound(r.Hi)}
	}
	return out, api.OK
}

func giveBound(b api.Bound) api.Bound {
	if b.Inf != 0 {
		return api.Bound{Inf: side(b)}
	}
	return api.Bound{N: bigint.Norm(b.N)}
}
