package term

import (
	"cmp"
	"maps"
	"slices"

	"hornbeam/api"
)

// Variables are those of some terms, each once, in the order in which they first stand.
func Variables(l ...api.Term) ([]int, api.Errno) {
	if e := checkAll(l...); e != api.OK {
		return nil, e
	}
	var out []int
	number := numbering()
	for _, t := range l {
		eachVariable(t, func(n int) {
			if number(n) == len(out) {
				out = append(out, n)
			}
		})
	}
	return out, api.OK
}

// Plain is some terms with their variables numbered anew, from 0 on, in the order in which they first stand.
func Plain(l ...api.Term) ([]api.Term, api.Errno) {
	if e := checkAll(l...); e != api.OK {
		return nil, e
	}
	number := numbering()
	out := make([]api.Term, len(l))
	for i, t := range l {
		out[i] = fill(t, func(n int) api.Term { return variable(number(n)) })
	}
	return out, api.OK
}

// Variant tells whether two terms are alike but for their variables' numbers.
func Variant(a, b api.Term) (bool, api.Errno) {
	if e := checkAll(a, b); e != api.OK {
		return false, e
	}
	left, right := numbering(), numbering()
	way := order(a, b, func(x, y int) int { return cmp.Compare(left(x), right(y)) })
	return way == 0, api.OK
}

// numbering answers a function that numbers variables from 0 on, in the order
// in which it is first asked for each.
func numbering() func(n int) int {
	given := map[int]int{}
	return func(n int) int {
		number, is := given[n]
		if !is {
			number = len(given)
			given[n] = number
		}
		return number
	}
}

// standIn is what stands for a variable, and how many nodes it has, which is
// asked wherever the variable stands.
type standIn struct {
	term  api.Term
	nodes int
}

// Put puts terms in the places of variables.
func Put(t api.Term, l []api.Bind) (api.Term, api.Errno) {
	if e := Check(t); e != api.OK {
		return api.Term{}, e
	}
	stands, e := standIns(l)
	if e != api.OK {
		return api.Term{}, e
	}
	size := Nodes(t)
	eachVariable(t, func(n int) {
		if s, is := stands[n]; is {
			size += s.nodes - 1
		}
	})
	if size > api.MaxNodes {
		return api.Term{}, api.ErrTermNodes
	}
	return fill(t, func(n int) api.Term {
		if s, is := stands[n]; is {
			return copyOf(s.term)
		}
		return variable(n)
	}), api.OK
}

func standIns(l []api.Bind) (map[int]standIn, api.Errno) {
	out := map[int]standIn{}
	for _, b := range l {
		if _, is := out[b.Var]; is || b.Var < 0 {
			return nil, api.ErrArg
		}
		if e := Check(b.Term); e != api.OK {
			return nil, e
		}
		out[b.Var] = standIn{b.Term, Nodes(b.Term)}
	}
	return out, api.OK
}

// Match tells what the variables of one term must stand for, that it be the other one.
func Match(a, b api.Term) ([]api.Bind, bool, api.Errno) {
	if e := checkAll(a, b); e != api.OK {
		return nil, false, e
	}
	found := map[int]api.Term{}
	is := match(a, b, func(n int, t api.Term) bool {
		first, met := found[n]
		if !met {
			found[n] = t
			return true
		}
		return same(first, t)
	})
	if !is {
		return nil, false, api.OK
	}
	var out []api.Bind
	for _, n := range slices.Sorted(maps.Keys(found)) {
		out = append(out, api.Bind{Var: n, Term: copyOf(found[n])})
	}
	return out, true, api.OK
}

// match tells whether a is b, where stands tells whether a term may stand for
// a variable of a.
func match(a, b api.Term, stands func(n int, t api.Term) bool) bool {
	switch {
	case a.Kind == api.Var:
		return stands(a.Var, b)
	case a.Kind != api.Compound:
		return same(a, b)
	case !isCompound(b, a.Name, len(a.Args)):
		return false
	}
	for i := range a.Args {
		if !match(a.Args[i], b.Args[i], stands) {
			return false
		}
	}
	return true
}

func variable(n int) api.Term { return api.Term{Kind: api.Var, Var: n} }

// eachVariable tells the variables of a term, each wherever it stands, from
// the left.
func eachVariable(t api.Term, tell func(n int)) {
	if t.Kind == api.Var {
		tell(t.Var)
	}
	for _, part := range t.Args {
		eachVariable(part, tell)
	}
}
