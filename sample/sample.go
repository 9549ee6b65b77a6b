// Package sample has what the tests of several packages need: terms that are
// read, held against each other, shown, spoilt and thrown. The program itself does
// not use it.
package sample

import (
	"math"
	"slices"
	"strconv"
	"strings"

	"hornbeam/api"
	"hornbeam/ops"
	"hornbeam/parser"
	"hornbeam/term"
	"hornbeam/tree"
)

const (
	// shown is how many bytes of a text are shown.
	shown = 300
	// markKind is that of a mark in a list's spare room.
	markKind = 77
)

// Equal tells whether two terms are the same in every field.
func Equal(a, b api.Term) bool {
	return a.Kind == b.Kind && a.Name == b.Name && a.Num == b.Num && a.Bits == b.Bits && a.Var == b.Var && slices.EqualFunc(a.Args, b.Args, Equal)
}

// EqualLists tells whether the terms of two lists are the same, one by one.
func EqualLists(a, b []api.Term) bool { return slices.EqualFunc(a, b, Equal) }

// IsNone tells whether a term is the zero one.
func IsNone(t api.Term) bool { return Equal(t, api.Term{}) }

// Short is a text, cut where it is long.
func Short(text string) string {
	if len(text) > shown {
		return text[:shown] + ".. (" + strconv.Itoa(len(text)) + " bytes)"
	}
	return text
}

// Show is a term without operators, its names in double quotes; of one of no
// kind nothing.
func Show(t api.Term) string {
	switch t.Kind {
	case 0:
		return ""
	case api.Var:
		return "_" + strconv.Itoa(t.Var)
	case api.Atom:
		return strconv.Quote(t.Name)
	case api.Integer:
		return t.Num
	case api.Float:
		return strconv.FormatFloat(math.Float64frombits(t.Bits), 'g', -1, 64) + "f"
	}
	return strconv.Quote(t.Name) + "(" + ShowAll(t.Args) + ")"
}

// ShowAll is Show of each, with commas between.
func ShowAll(l []api.Term) string {
	var parts []string
	for _, part := range l {
		parts = append(parts, Show(part))
	}
	return strings.Join(parts, ",")
}

// Said is what a call answers: an error alone, if there is one and nothing stands
// beside it, else the text.
func Said(text string, isNothing bool, err error) string {
	var out string
	switch x := err.(type) {
	case nil:
		return text
	case *api.Ball:
		out = Thrown(x.Term)
	case api.Errno:
		out = Failure(x)
	default:
		return "an error of another type"
	}
	if !isNothing {
		out += " beside " + text
	}
	return out
}

// Thrown is what Said says of a ball.
func Thrown(t api.Term) string { return "thrown " + Show(t) }

// WrongType is what Said says of a ball that says that a term is not of the kind
// that is needed.
func WrongType(needed string, t api.Term) string {
	return Thrown(tree.Of("type_error", tree.Atom(needed), t))
}

// Failure is what Said says of an error's number.
func Failure(e api.Errno) string { return "error " + strconv.Itoa(int(e)) }

// Place is what the tables of the chapters know a term by: its name and arity,
// or its kind.
func Place(t api.Term) string {
	switch t.Kind {
	case api.Var:
		return "a variable"
	case api.Integer, api.Float:
		return "a number"
	}
	return t.Name + "/" + strconv.Itoa(len(t.Args))
}

// Read is the term that a text is. A variable that is written as _ and a number
// has that number, all others have those that the parser gives them.
func Read(text string) api.Term {
	r, err := parser.Read(text+" .", 0, ops.New(), api.Flags{})
	if err != nil {
		panic(text)
	}
	var binds []api.Bind
	for _, v := range r.Names {
		if n, err := strconv.Atoi(strings.TrimPrefix(v.Name, "_")); err == nil {
			binds = append(binds, api.Bind{Var: v.Var, Term: tree.Var(n)})
		}
	}
	out, _ := term.Put(r.Term, binds)
	return out
}

// List is a list that ends.
func List(l ...api.Term) api.Term { return tree.List(l, tree.Atom(tree.Empty)) }

// Float is a float.
func Float(f float64) api.Term { return tree.Float(math.Float64bits(f)) }

// Deep is a term of so many nodes, each within another one.
func Deep(nodes int) api.Term {
	t := tree.Atom("x")
	for range nodes - 1 {
		t = tree.Of("d", t)
	}
	return t
}

// Wide is a term of so many nodes that is an atom or a compound, no node of more
// arguments than may be.
func Wide(nodes int) api.Term {
	if nodes == 1 {
		return tree.Atom("x")
	}
	nodes--
	count := min(nodes, api.MaxArity)
	t := tree.Of("w")
	for i := range count {
		share := nodes / count
		if i < nodes%count {
			share++
		}
		t.Args = append(t.Args, Wide(share))
	}
	return t
}

// A Mistake is a tree that may not be, and what is told of it.
type Mistake struct {
	Errno api.Errno
	Term  api.Term
}

// Mistakes are trees that may not be, one for each error at least.
func Mistakes() []Mistake {
	endless := tree.Of("e", tree.Atom("x"), api.Term{})
	endless.Args[1] = endless
	return []Mistake{
		{api.ErrTermKind, api.Term{}},
		{api.ErrTermKind, api.Term{Kind: 9}},
		{api.ErrTermKind, tree.Of("g", tree.Of("h"))},
		{api.ErrTermKind, tree.Var(-1)},
		{api.ErrTermKind, api.Term{Kind: api.Atom, Name: "a", Num: "1"}},
		{api.ErrTermName, tree.Of("\xff", tree.Atom("a"))},
		{api.ErrTermName, tree.Atom(strings.Repeat("n", api.MaxName+1))},
		{api.ErrTermNum, tree.Of("g", tree.Digits("007"))},
		{api.ErrTermFloat, Float(math.Inf(1))},
		{api.ErrTermFloat, Float(math.Copysign(0, -1))},
		{api.ErrTermNodes, endless},
		{api.ErrTermNodes, Deep(api.MaxNodes + 1)},
	}
}

// Spare is a term whose every list has spare room with marks in it, also the
// one of an atom, which is empty.
func Spare(t api.Term) api.Term {
	l := make([]api.Term, len(t.Args), len(t.Args)+3)
	for i, part := range t.Args {
		l[i] = Spare(part)
	}
	for i := len(l); i < cap(l); i++ {
		l[:cap(l)][i] = api.Term{Kind: markKind}
	}
	t.Args = l
	return t
}

// IsSpare tells whether got is Spare of t still.
func IsSpare(got, t api.Term) bool {
	if !Equal(bare(got), bare(t)) || !slices.EqualFunc(got.Args, t.Args, IsSpare) {
		return false
	}
	for _, m := range got.Args[len(got.Args):cap(got.Args)] {
		if !Equal(m, api.Term{Kind: markKind}) {
			return false
		}
	}
	return true
}

func bare(t api.Term) api.Term {
	t.Args = nil
	return t
}

// Places tells where the parts of a list stand, what is within them and spare
// room too, innermost first.
func Places(l []api.Term, tell func(p *api.Term)) {
	for i := range l {
		Places(l[i].Args, tell)
	}
	for i := range l[:cap(l)] {
		tell(&l[:cap(l)][i])
	}
}

// Spoil writes over all lists of terms, their spare room too.
func Spoil(l ...api.Term) {
	for _, t := range l {
		Places(t.Args, func(p *api.Term) { *p = tree.Atom("spoilt") })
	}
}

// Dice throw numbers by a rule of their own, the same ones each time.
type Dice uint64

// Next is a number from 0 on, below n.
func (d *Dice) Next(n int) int {
	*d = *d*6364136223846793005 + 1442695040888963407
	return int(uint64(*d)>>33) % n
}

// Throw is one of a list.
func Throw[T any](d *Dice, l ...T) T { return l[d.Next(len(l))] }
