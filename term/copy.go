package term

import "hornbeam/api"

// fill is a term with what stands tells in the place of each variable. All
// answers go out through it, so that none shares memory with an argument or
// with another answer, if what stands tells shares none.
func fill(t api.Term, stands func(n int) api.Term) api.Term {
	if t.Kind == api.Var {
		return stands(t.Var)
	}
	// Also without arguments there may be a list, whose spare room is not ours.
	args := t.Args
	t.Args = nil
	if len(args) > 0 {
		t.Args = make([]api.Term, len(args))
	}
	for i, part := range args {
		t.Args[i] = fill(part, stands)
	}
	return t
}

func copyOf(t api.Term) api.Term { return fill(t, variable) }

func copyAll(l []api.Term) []api.Term {
	out := make([]api.Term, len(l))
	for i, t := range l {
		out[i] = copyOf(t)
	}
	return out
}
