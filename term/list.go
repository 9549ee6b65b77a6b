package term

import (
	"slices"

	"hornbeam/api"
)

// List is a list of some elements, and what stands at its end.
func List(l []api.Term, end api.Term) (api.Term, api.Errno) {
	if e := checkAll(l...); e != api.OK {
		return api.Term{}, e
	}
	if e := Check(end); e != api.OK {
		return api.Term{}, e
	}
	size := Nodes(end)
	for _, t := range l {
		size += 1 + Nodes(t)
	}
	if size > api.MaxNodes {
		return api.Term{}, api.ErrTermNodes
	}
	out := copyOf(end)
	for _, t := range slices.Backward(l) {
		out = api.Term{Kind: api.Compound, Name: ".", Args: []api.Term{copyOf(t), out}}
	}
	return out, api.OK
}

// Elements are those of a list, and what stands at its end.
func Elements(t api.Term) ([]api.Term, api.Term, api.Errno) {
	if e := Check(t); e != api.OK {
		return nil, api.Term{}, e
	}
	var out []api.Term
	for isCompound(t, ".", 2) {
		out = append(out, copyOf(t.Args[0]))
		t = t.Args[1]
	}
	return out, copyOf(t), api.OK
}
