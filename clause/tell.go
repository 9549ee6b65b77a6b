package clause

import (
	"slices"

	"hornbeam/api"
	"hornbeam/term"
	"hornbeam/tree"
)

// goalOf is the term of a body, which holds its parts as they were handed in,
// and whether Ready makes that body.
func goalOf(b api.Body) (api.Term, bool) {
	if nodes(b) > api.MaxNodes {
		return api.Term{}, false
	}
	t := told(b)
	again, err := Ready(t)
	return t, err == nil && sameBody(again, b)
}

// told is the term of a body. Of one that Ready does not make it is a tree of
// which Ready makes no such body.
func told(b api.Body) api.Term {
	var parts []api.Term
	for _, sub := range b.Sub {
		parts = append(parts, told(sub))
	}
	switch b.Kind {
	case api.BTrue:
		return tree.Atom("true")
	case api.BCut:
		return tree.Atom("!")
	case api.BCall:
		return b.Term
	case api.BAnd:
		return tree.Of(",", parts...)
	case api.BOr:
		return tree.Of(";", parts...)
	case api.BIf:
		if len(parts) == 3 {
			return tree.Of(";", tree.Of("->", parts[0], parts[1]), parts[2])
		}
		return tree.Of("->", parts...)
	case api.BModule:
		return tree.Of(":", slices.Concat([]api.Term{b.Term}, parts)...)
	}
	return api.Term{}
}

// nodes is how many nodes the term of a body has: MaxNodes + 1, if they are more
// than MaxNodes.
func nodes(b api.Body) int { return count(b, api.MaxNodes+1) }

// count is how many nodes the term of a body has, but most, if they are more. It
// looks at no more parts than most, for a body made by hand may hold itself.
func count(b api.Body, most int) int {
	n := 1
	switch {
	case b.Kind == api.BCall:
		n = term.Nodes(b.Term)
	case b.Kind == api.BModule, b.Kind == api.BIf && len(b.Sub) == 3:
		n = 2
	}
	for _, sub := range b.Sub {
		if n >= most {
			break
		}
		n += count(sub, most-n)
	}
	return min(n, most)
}

func sameClause(a, b api.Clause) bool {
	return a.Vars == b.Vars && sameTerm(a.Head, b.Head) && sameBody(a.Body, b.Body)
}

func sameBody(a, b api.Body) bool {
	return a.Kind == b.Kind && sameTerm(a.Term, b.Term) && slices.EqualFunc(a.Sub, b.Sub, sameBody)
}

// sameTerm looks at all fields: a term that a body does not use is a zero one.
func sameTerm(a, b api.Term) bool {
	return a.Kind == b.Kind && a.Name == b.Name && a.Num == b.Num && a.Bits == b.Bits && a.Var == b.Var && slices.EqualFunc(a.Args, b.Args, sameTerm)
}
