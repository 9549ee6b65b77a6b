// Package ball makes the formal parts of the balls that the system throws, for
// the layers that have some to throw. It looks at nothing: what is made of a
// term that may not be may not be either.
package ball

import (
	"hornbeam/api"
	"hornbeam/tree"
)

// Instantiation says that a variable stands where something is needed.
func Instantiation() *api.Ball { return of(tree.Atom("instantiation_error")) }

// Type says that a term, which it keeps, is not of the kind that is needed.
func Type(needed string, t api.Term) *api.Ball {
	return of(tree.Of("type_error", tree.Atom(needed), t))
}

// Domain says that a term, which it keeps, is of the kind that is needed, but
// none of those that may be.
func Domain(needed string, t api.Term) *api.Ball {
	return of(tree.Of("domain_error", tree.Atom(needed), t))
}

// Existence says that there is no such thing.
func Existence(kind string, t api.Term) *api.Ball {
	return of(tree.Of("existence_error", tree.Atom(kind), t))
}

// Permission says that something may not be done to a thing.
func Permission(action, kind string, t api.Term) *api.Ball {
	return of(tree.Of("permission_error", tree.Atom(action), tree.Atom(kind), t))
}

// Representation says what there cannot be here.
func Representation(what string) *api.Ball {
	return of(tree.Of("representation_error", tree.Atom(what)))
}

// Evaluation says what was wrong in reckoning something out.
func Evaluation(what string) *api.Ball {
	return of(tree.Of("evaluation_error", tree.Atom(what)))
}

// Resource says what there was too much of.
func Resource(what string) *api.Ball { return of(tree.Of("resource_error", tree.Atom(what))) }

func of(t api.Term) *api.Ball { return &api.Ball{Term: t} }
