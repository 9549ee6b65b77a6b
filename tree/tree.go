// Package tree makes terms, for the layers that have some to make, and tells what
// they are of. It checks nothing: what is made of parts that may not be may not be
// either.
package tree

import (
	"strconv"

	"hornbeam/api"
)

// The atoms that brackets make.
const (
	Empty  = "[]"
	Braces = "{}"
)

// Var is the variable of a number.
func Var(n int) api.Term { return api.Term{Kind: api.Var, Var: n} }

// Atom is the atom of a name.
func Atom(name string) api.Term { return api.Term{Kind: api.Atom, Name: name} }

// Digits is the integer that some digits tell.
func Digits(num string) api.Term { return api.Term{Kind: api.Integer, Num: num} }

// Int is an integer.
func Int(n int) api.Term { return Digits(strconv.Itoa(n)) }

// Float is the float of some bits.
func Float(bits uint64) api.Term { return api.Term{Kind: api.Float, Bits: bits} }

// Of is a compound; it keeps the list of its arguments.
func Of(name string, args ...api.Term) api.Term {
	return api.Term{Kind: api.Compound, Name: name, Args: args}
}

// Is tells whether a term is of a name, with so many arguments: without any an
// atom, else a compound.
func Is(t api.Term, name string, arity int) bool {
	return (t.Kind == api.Atom || t.Kind == api.Compound) && t.Name == name && len(t.Args) == arity
}

// List is a list of elements, and behind them its end.
func List(elements []api.Term, end api.Term) api.Term {
	for i := len(elements) - 1; i >= 0; i-- {
		end = Of(".", elements[i], end)
	}
	return end
}
