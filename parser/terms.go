package parser

import (
	"math"

	"hornbeam/api"
	"hornbeam/tree"
)

// add puts one more behind others. Where there are so many that no term could
// hold them it is dropped, as what they are is of no account any more.
func add(l []api.Term, t api.Term) []api.Term {
	if len(l) > api.MaxNodes {
		return l
	}
	return append(l, t)
}

// number is the number that a token is.
func number(token api.Token) api.Term {
	if token.Kind == api.TFloat {
		return tree.Float(token.Bits)
	}
	return tree.Digits(token.Num)
}

// negative is a number below nought, and nought as it is.
func negative(n api.Term) api.Term {
	switch {
	case n.Kind == api.Float && n.Bits != 0:
		n.Bits = math.Float64bits(-math.Float64frombits(n.Bits))
	case n.Kind == api.Integer && n.Num != "0":
		n.Num = "-" + n.Num
	}
	return n
}

// textAs is a text as what quotes make of it: its characters, or an atom.
func textAs(quotes int, text string) api.Term {
	if quotes == api.QAtom {
		return tree.Atom(text)
	}
	var l []api.Term
	for _, char := range text {
		if quotes == api.QChars {
			l = add(l, tree.Atom(string(char)))
		} else {
			l = add(l, tree.Int(int(char)))
		}
	}
	return tree.List(l, tree.Atom(tree.Empty))
}
