package term_test

import (
	"math"
	"strings"
	"testing"

	"hornbeam/api"
	"hornbeam/term"
)

// P2.1.
func TestNodes(t *testing.T) {
	stray := api.Term{Kind: api.Atom, Name: "a", Args: []api.Term{{}, {Kind: -3, Args: []api.Term{v(-1)}}}}
	broad := f("b", make([]api.Term, 1000000)...)
	for _, c := range []struct {
		name string
		t    api.Term
		want int
	}{
		{"none", api.Term{}, 1}, {"a variable", v(7), 1}, {"an integer", num("12"), 1}, {"f(a,g(b,c),X)", f("f", atom("a"), f("g", atom("b"), atom("c")), v(0)), 6},
		{"a compound without arguments", f("f"), 1}, {"arguments of any kind", stray, 4}, {"of variables and numbers", api.Term{Kind: api.Integer, Args: []api.Term{{Kind: api.Var, Args: []api.Term{atom("a")}}}}, 3},
		{"wide, 3999", wide(3999), 3999}, {"wide, 4000", wide(4000), 4000}, {"wide, 4001", wide(4001), 4001}, {"wide, 4002", wide(4002), 4001},
		{"deep, 4000", deep(4000), 4000}, {"deep, 4001", deep(4001), 4001}, {"deep, 4002", deep(4002), 4001}, {"deep, 60000", deep(60000), 4001},
		{"a row of 3999", f("r", make([]api.Term, 3999)...), 4000}, {"a row of 4000", f("r", make([]api.Term, 4000)...), 4001}, {"a row of many", broad, 4001},
		{"endless", endless(), 4001}, {"doubling", doubling(), 4001}, {"two halves", f("t", deep(2000), deep(1999)), 4000}, {"two halves and one", f("t", deep(2000), deep(2000)), 4001},
	} {
		if got := term.Nodes(c.t); got != c.want {
			t.Errorf("Nodes of %s: %d, want %d", c.name, got, c.want)
		}
	}
}

type checked struct {
	name string
	t    api.Term
	want api.Errno
}

func runChecks(t *testing.T, l []checked) {
	t.Helper()
	for _, c := range l {
		if got := term.Check(c.t); got != c.want {
			t.Errorf("Check of %s: %v, want %v", c.name, got, c.want)
		}
		if got := term.Check(f("f", atom("a"), f("g", c.t), v(1))); got != c.want {
			t.Errorf("Check of %s within another term: %v, want %v", c.name, got, c.want)
		}
	}
}

// P2.2: each error, of each kind of term.
func TestCheckOfKinds(t *testing.T) {
	args := []api.Term{atom("a")}
	l := []checked{
		{"none", api.Term{}, api.ErrTermKind}, {"a kind below 0", api.Term{Kind: -1}, api.ErrTermKind}, {"a kind 6", api.Term{Kind: 6}, api.ErrTermKind}, {"a kind far off", api.Term{Kind: math.MinInt, Name: "a", Args: args}, api.ErrTermKind},
		{"_0", v(0), api.OK}, {"the greatest variable", v(math.MaxInt), api.OK}, {"_-1", v(-1), api.ErrTermKind}, {"the least variable", v(math.MinInt), api.ErrTermKind},
		{"a", atom("a"), api.OK}, {"a compound without arguments", f("f"), api.ErrTermKind}, {"one with an empty list", f("f", make([]api.Term, 0, 3)...), api.ErrTermKind},
		{"one argument", f("f", v(0)), api.OK}, {"MaxArity arguments", f("f", make64()...), api.OK}, {"one more", f("f", append(make64(), v(0))...), api.ErrTermKind},
	}
	// Each kind with each field that it does not use.
	for _, c := range []struct {
		name string
		t    api.Term
		uses string
	}{
		{"a variable", v(3), "Var"}, {"an atom", atom("a"), "Name"}, {"an integer", num("5"), "Num"}, {"a float", float(2.5), "Bits"}, {"a compound", f("f", atom("a")), "Name Args"},
	} {
		for _, field := range []string{"Name", "Num", "Bits", "Var", "Args"} {
			if !strings.Contains(c.uses, field) {
				l = append(l, checked{c.name + " with " + field, with(c.t, field), api.ErrTermKind})
			}
		}
		if !strings.Contains(c.uses, "Args") {
			c.t.Args = make([]api.Term, 0, 4)
			l = append(l, checked{c.name + " with an empty list", c.t, api.OK})
		}
		if !strings.Contains(c.uses, "Var") {
			c.t.Var = -1
			l = append(l, checked{c.name + " with a variable below 0", c.t, api.ErrTermKind})
		}
	}
	runChecks(t, l)
}

func with(t api.Term, field string) api.Term {
	switch field {
	case "Name":
		t.Name = "x"
	case "Num":
		t.Num = "1"
	case "Bits":
		t.Bits = 1
	case "Var":
		t.Var = 1
	case "Args":
		t.Args = []api.Term{atom("a")}
	}
	return t
}

func TestCheckOfNames(t *testing.T) {
	long := strings.Repeat("\u00e9", api.MaxName/2)
	var l []checked
	for _, c := range []struct {
		name string
		want api.Errno
	}{
		{"", api.OK}, {"a", api.OK}, {"[]", api.OK}, {"\x00", api.OK}, {"\n '", api.OK}, {"\u00e9", api.OK}, {"\ufffd", api.OK}, {"\U0010ffff", api.OK},
		{strings.Repeat("x", api.MaxName-1), api.OK}, {strings.Repeat("x", api.MaxName), api.OK}, {strings.Repeat("x", api.MaxName+1), api.ErrTermName},
		{long, api.OK}, {long + "x", api.ErrTermName}, {strings.Repeat("x", 100000), api.ErrTermName},
		{"\xff", api.ErrTermName}, {"a\x80", api.ErrTermName}, {"\xc3", api.ErrTermName}, {"\xc0\x80", api.ErrTermName}, {"\xed\xa0\x80", api.ErrTermName}, {"\xf4\x90\x80\x80", api.ErrTermName}, {long[:api.MaxName-1], api.ErrTermName},
	} {
		l = append(l, checked{"an atom " + cut(c.name), atom(c.name), c.want}, checked{"a compound " + cut(c.name), f(c.name, v(0)), c.want})
	}
	runChecks(t, l)
}

func TestCheckOfNums(t *testing.T) {
	long := ones(api.MaxBits)
	// One more: long ends with a 5, as each power of 16 ends with a 6.
	longer := long[:len(long)-1] + "6"
	var l []checked
	for _, s := range []string{"0", "1", "9", "10", "-1", "-10", "100", "9223372036854775808", "-9223372036854775809", long, "-" + long, ones(api.MaxBits - 1), strings.Repeat("9", 1233)} {
		l = append(l, checked{cut(s), num(s), api.OK})
	}
	for _, s := range []string{
		"", "-", "-0", "00", "007", "-01", "-00", "--1", "+1", " 1", "1 ", "1.0", "1e3", "0x1", "a", "1a", "f", "1_0", "\xff", "\uff11", "0" + long, "-0" + long, longer, "-" + longer, long + "0", strings.Repeat("9", 1234), strings.Repeat("9", 1000000), strings.Repeat("0", 1000000),
	} {
		l = append(l, checked{cut(s), num(s), api.ErrTermNum})
	}
	runChecks(t, l)
}

func TestCheckOfFloats(t *testing.T) {
	var l []checked
	for _, x := range []float64{0, 1, -1, 2.5, math.MaxFloat64, -math.MaxFloat64, math.SmallestNonzeroFloat64, -math.SmallestNonzeroFloat64, 0x1p-1022, 0x1.fffffffffffffp-1023} {
		l = append(l, checked{"a float", float(x), api.OK})
	}
	for _, bits := range []uint64{1 << 63, 0x7ff0000000000000, 0xfff0000000000000, 0x7ff8000000000000, 0x7ff0000000000001, 0xfff0000000000001, 0xffffffffffffffff, 0x7fffffffffffffff} {
		l = append(l, checked{"bits", api.Term{Kind: api.Float, Bits: bits}, api.ErrTermFloat})
	}
	runChecks(t, l)
}

// P2.2: how many nodes there are is told ahead of what is wrong of one.
func TestCheckOfGreatTrees(t *testing.T) {
	begun := wide(api.MaxNodes + 1)
	begun.Num = "1"
	ended := wide(api.MaxNodes + 1)
	ended.Args[len(ended.Args)-1] = f("\xff", ended.Args[len(ended.Args)-1].Args...)
	fits := wide(api.MaxNodes)
	fits.Args[3].Name = "\xff"
	row := func(n int) api.Term { return api.Term{Kind: api.Atom, Args: make([]api.Term, n)} }
	for _, c := range []checked{
		{"wide, MaxNodes", wide(api.MaxNodes), api.OK}, {"wide, one more", wide(api.MaxNodes + 1), api.ErrTermNodes},
		{"deep, MaxNodes", deep(api.MaxNodes), api.OK}, {"deep, one more", deep(api.MaxNodes + 1), api.ErrTermNodes}, {"deep, many", deep(60000), api.ErrTermNodes},
		{"wrong at its beginning", begun, api.ErrTermNodes}, {"wrong at its end", ended, api.ErrTermNodes}, {"wrong, MaxNodes", fits, api.ErrTermName},
		{"an atom's arguments, MaxNodes", row(api.MaxNodes - 1), api.ErrTermKind}, {"an atom's arguments, one more", row(api.MaxNodes), api.ErrTermNodes},
		{"endless", endless(), api.ErrTermNodes}, {"doubling", doubling(), api.ErrTermNodes},
	} {
		if got := term.Check(c.t); got != c.want {
			t.Errorf("Check of %s: %v, want %v", c.name, got, c.want)
		}
	}
}

// P2.2: of several nodes that are wrong the first is told, each ahead of its
// arguments; of one node its kind ahead of its name.
func TestCheckTellsTheFirst(t *testing.T) {
	name, digits, inf, kind := atom("\xff"), num("01"), float(math.Inf(-1)), api.Term{}
	runChecks(t, []checked{
		{"a name, then a number", f("f", name, digits), api.ErrTermName}, {"a number, then a name", f("f", digits, name), api.ErrTermNum},
		{"a float, then no kind", f("f", atom("a"), inf, kind), api.ErrTermFloat}, {"no kind, then a float", f("f", atom("a"), kind, inf), api.ErrTermKind},
		{"a number deep down, then a name", f("f", f("g", f("h", digits)), name), api.ErrTermNum},
		{"a name of a compound, then its argument", f("\xff", digits), api.ErrTermName}, {"an argument, then another's name", f("f", f("g", inf), f("\xff", digits)), api.ErrTermFloat},
		{"too many arguments, that are wrong", f("f", append(make64(), digits)...), api.ErrTermKind}, {"too many arguments of a wrong name", f("\xff", append(make64(), v(1))...), api.ErrTermKind},
		{"an integer with a wrong name", api.Term{Kind: api.Integer, Name: "\xff", Num: "01"}, api.ErrTermKind}, {"a wrong integer with arguments", api.Term{Kind: api.Integer, Num: "01", Args: []api.Term{name}}, api.ErrTermKind},
		{"a wrong float with arguments", api.Term{Kind: api.Float, Bits: 1 << 63, Args: []api.Term{name}}, api.ErrTermKind}, {"a wrong atom with a variable", api.Term{Kind: api.Atom, Name: "\xff", Var: 1}, api.ErrTermKind},
		{"an atom's wrong arguments", api.Term{Kind: api.Atom, Name: "a", Args: []api.Term{digits}}, api.ErrTermKind},
	})
}
