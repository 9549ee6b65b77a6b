package tree_test

import (
	"math"
	"reflect"
	"testing"

	"hornbeam/api"
	"hornbeam/term"
	"hornbeam/tree"
)

// Each is the term that it says, no other field set.
func TestTerms(t *testing.T) {
	a := api.Term{Kind: api.Atom, Name: "a"}
	for what, pair := range map[string][2]api.Term{
		"Var":            {tree.Var(3), {Kind: api.Var, Var: 3}},
		"Atom":           {tree.Atom("a"), a},
		"Digits":         {tree.Digits("123456789012345678901234567890"), {Kind: api.Integer, Num: "123456789012345678901234567890"}},
		"Int":            {tree.Int(-7), {Kind: api.Integer, Num: "-7"}},
		"the least Int":  {tree.Int(math.MinInt), {Kind: api.Integer, Num: "-9223372036854775808"}},
		"Float":          {tree.Float(math.Float64bits(1.5)), {Kind: api.Float, Bits: 0x3ff8000000000000}},
		"Of":             {tree.Of("f", a, tree.Var(0)), {Kind: api.Compound, Name: "f", Args: []api.Term{a, {Kind: api.Var}}}},
		"an empty List":  {tree.List(nil, a), a},
		"List":           {tree.List([]api.Term{a, tree.Int(1)}, tree.Atom(tree.Empty)), tree.Of(".", a, tree.Of(".", tree.Int(1), tree.Atom("[]")))},
		"a partial List": {tree.List([]api.Term{a}, tree.Var(1)), tree.Of(".", a, tree.Var(1))},
		"braces":         {tree.Of(tree.Braces, a), {Kind: api.Compound, Name: "{}", Args: []api.Term{a}}},
	} {
		if got, want := pair[0], pair[1]; !reflect.DeepEqual(got, want) || term.Check(got) != api.OK {
			t.Errorf("%s: %v, not %v", what, got, want)
		}
	}
}

// What is handed to List stays as it is.
func TestListTakesNoElements(t *testing.T) {
	l := []api.Term{tree.Int(1), tree.Int(2), tree.Int(3)}
	made := tree.List(l[:2], tree.Atom(tree.Empty))
	made.Args[0] = tree.Int(4)
	if want := []api.Term{tree.Int(1), tree.Int(2), tree.Int(3)}; !reflect.DeepEqual(l, want) {
		t.Errorf("the elements are %v", l)
	}
}

// A term is of one name and one number of arguments; no other kind is of any.
func TestIs(t *testing.T) {
	a := tree.Atom("a")
	for _, row := range []struct {
		term  api.Term
		name  string
		arity int
		is    bool
	}{
		{a, "a", 0, true},
		{a, "b", 0, false},
		{a, "a", 1, false},
		{tree.Of("f", a, a), "f", 2, true},
		{tree.Of("f", a, a), "f", 1, false},
		{tree.Of("f", a, a), "f", 0, false},
		{tree.Of("f", a, a), "a", 2, false},
		{tree.Atom(""), "", 0, true},
		{tree.Var(0), "", 0, false},
		{tree.Int(0), "", 0, false},
		{tree.Float(0), "", 0, false},
		{api.Term{}, "", 0, false},
	} {
		if is := tree.Is(row.term, row.name, row.arity); is != row.is {
			t.Errorf("%v is %q with %d arguments: %v", row.term, row.name, row.arity, is)
		}
	}
}
