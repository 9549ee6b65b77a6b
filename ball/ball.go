// Package ball makes the formal parts of the balls that the system throws, for
// the layers that have some to throw. It looks at nothing: what is made of a
// term that may not be may not be either.
package ball

import (
	"hornbeam/api"
	"hornbeam/tree"
)

// Instantiation says that a variable stands where something is needed.
func Instantiation() *api.Ball { return of(tree.Atom("instantiation_error")) }

// Type says that a term, which it keeps, is not of the kind that is needed.
func Type(needed string, t api.Term) *api.Ball {
	return of(tree.Of("type_error", tree.Atom(needed), t))
}

// Evaluation says what was wrong in reckoning something out.
func Evaluation(what string) *api.Ball {
	return of(tree.Of("evaluation_error", tree.Atom(what)))
}

// Resource says what there was too much of.
func Resource(what string) *api.Ball { return of(tree.Of("resource_error", tree.Atom(what))) }

func of(t api.Term) *api.Ball { return &api.Ball{Term: t} }
