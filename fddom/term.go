package fddom

import (
	"hornbeam/api"
	"hornbeam/ball"
	"hornbeam/bigint"
	"hornbeam/term"
	"hornbeam/tree"
)

// How a set is written as a term.
const (
	nameTo = ".."
	nameOr = `\/`
	inf    = "inf"
	sup    = "sup"
)

// Term is a set as a term; Read reads it.
func Term(d []api.Range) (api.Term, api.Errno) {
	sets, e := take(api.Int{}, d)
	if e != api.OK {
		return api.Term{}, e
	}
	s := sets[0]
	if len(s) == 0 {
		return tree.Of(nameTo, tree.Int(1), tree.Int(0)), api.OK
	}
	out := rangeTerm(s[0])
	for _, r := range s[1:] {
		out = tree.Of(nameOr, out, rangeTerm(r))
	}
	return out, api.OK
}

func rangeTerm(r api.Range) api.Term {
	lo, hi := boundTerm(r.Lo), boundTerm(r.Hi)
	if !isEndless(r) && bigint.Cmp(r.Lo.N, r.Hi.N) == 0 {
		return lo
	}
	return tree.Of(nameTo, lo, hi)
}

func boundTerm(b api.Bound) api.Term {
	switch side(b) {
	case -1:
		return tree.Atom(inf)
	case 1:
		return tree.Atom(sup)
	}
	digits, _ := bigint.Text(b.N, 10)
	return tree.Digits(digits)
}

func Read(t api.Term) ([]api.Range, error) {
	if e := term.Check(t); e != api.OK {
		return nil, e
	}
	l, is := appendRanges(nil, t)
	if !is {
		// With nothing to put, Put only makes it new memory.
		whole, _ := term.Put(t, nil)
		return nil, ball.Type("fd_domain", whole)
	}
	out, e := Norm(l)
	if e != api.OK {
		return nil, e
	}
	return out, nil
}

// appendRanges puts the ranges of a term behind others; false: it is no set.
func appendRanges(l []api.Range, t api.Term) ([]api.Range, bool) {
	if t.Kind == api.Integer {
		b, is := boundOf(t)
		return append(l, api.Range{Lo: b, Hi: b}), is
	}
	if len(t.Args) != 2 {
		return nil, false
	}
	switch a, b := t.Args[0], t.Args[1]; t.Name {
	case nameTo:
		lo, isLo := boundOf(a)
		hi, isHi := boundOf(b)
		return append(l, api.Range{Lo: lo, Hi: hi}), isLo && isHi
	case nameOr:
		l, is := appendRanges(l, a)
		if !is {
			return nil, false
		}
		return appendRanges(l, b)
	}
	return nil, false
}

// boundOf is the end of a range that a term is; false: it is none.
func boundOf(t api.Term) (api.Bound, bool) {
	switch {
	case t.Kind == api.Integer:
		n, _ := bigint.Parse(t.Num, 10)
		return api.Bound{N: n}, true
	case t.Kind == api.Atom && t.Name == inf:
		return api.Bound{Inf: -1}, true
	case t.Kind == api.Atom && t.Name == sup:
		return api.Bound{Inf: 1}, true
	}
	return api.Bound{}, false
}
