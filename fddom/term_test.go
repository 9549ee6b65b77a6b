package fddom_test

import (
	"math/big"
	"slices"
	"strconv"
	"strings"
	"testing"

	"hornbeam/api"
	"hornbeam/fddom"
	"hornbeam/sample"
	"hornbeam/term"
	"hornbeam/tree"
)

// saidRead is what Read answers; of a ball what was thrown.
func saidRead(d []api.Range, err error) string {
	switch x := err.(type) {
	case nil:
		return show(d)
	case *api.Ball:
		return "thrown " + sample.Show(x.Term) + beside(d)
	case api.Errno:
		return "error " + strconv.Itoa(int(x)) + beside(d)
	}
	return "an error of another type"
}

func beside(d []api.Range) string {
	if len(d) == 0 {
		return ""
	}
	return " beside " + show(d)
}

func checkRead(t *testing.T, x api.Term, want string) {
	t.Helper()
	if got := saidRead(fddom.Read(x)); got != want {
		t.Errorf("Read of %s: %s; want %s", sample.Short(sample.Show(x)), sample.Short(got), sample.Short(want))
	}
}

// noSet is what Read answers of a term that is no set.
func noSet(x api.Term) string {
	return "thrown " + sample.Show(tree.Of("type_error", tree.Atom("fd_domain"), x))
}

// P9.5.
func TestTerm(t *testing.T) {
	for a, want := range map[string]string{
		`inf..2\/4\/6..7`:       `\/(\/(..(inf,2),4),..(6,7))`,
		`6..7\/4\/inf..1\/2`:    `\/(\/(..(inf,2),4),..(6,7))`,
		"none":                  "..(1,0)",
		"9..8":                  "..(1,0)",
		"0":                     "0",
		"-7.. -7":               "-7",
		"-7..0":                 "..(-7,0)",
		`3\/4`:                  "..(3,4)",
		"inf..sup":              "..(inf,sup)",
		"inf.. -1":              "..(inf,-1)",
		"5..sup":                "..(5,sup)",
		`5\/8..sup`:             `\/(5,..(8,sup))`,
		`1\/3\/5\/7`:            `\/(\/(\/(1,3),5),7)`,
		`-18446744073709551616`: "-18446744073709551616",
	} {
		check(t, "Term", a, "none", "0", sample.Show(sample.Read(want)))
		if got, e := fddom.Term(loose(set(a))); e != api.OK || !sample.Equal(got, sample.Read(want)) {
			t.Errorf("Term of %s, loose: %s, %v", a, sample.Show(got), e)
		}
	}
	check(t, "Term", "max+1", "none", "0", tooLong)
	check(t, "Term", "sup.. -max-1", "none", "0", tooLong)
}

// P9.5: the greatest term of a set is one that may be, and is read.
func TestTermOfManyRanges(t *testing.T) {
	var most []api.Range
	for i := range api.MaxRanges {
		lo := new(big.Int).Sub(greatest(), big.NewInt(int64(5*i+3)))
		most = append(most, api.Range{Lo: api.Bound{N: intOf(lo)}, Hi: api.Bound{N: intOf(new(big.Int).Add(lo, big.NewInt(3)))}})
	}
	x, e := fddom.Term(most)
	if e != api.OK || term.Check(x) != api.OK || term.Nodes(x) != 4*api.MaxRanges-1 {
		t.Errorf("%v, %v, %d nodes", e, term.Check(x), term.Nodes(x))
	}
	back, err := fddom.Read(x)
	if is, _ := fddom.Same(back, most); err != nil || !is {
		t.Errorf("another one is read: %v", err)
	}
}

// P9.5.
func TestRead(t *testing.T) {
	for x, want := range map[string]string{
		"5":                            "5",
		"-5":                           "-5",
		"..(1, 3)":                     "1..3",
		"..(3, 3)":                     "3",
		"..(3, 1)":                     "none",
		"..(-3, -1)":                   "-3..-1",
		"..(inf, 3)":                   "inf..3",
		"..(3, sup)":                   "3..sup",
		"..(inf, sup)":                 "inf..sup",
		"..(sup, 3)":                   "none",
		"..(3, inf)":                   "none",
		"..(sup, inf)":                 "none",
		"..(inf, inf)":                 "none",
		"..(sup, sup)":                 "none",
		`\/(1, ..(2, sup))`:            "1..sup",
		`\/(..(2, sup), 1)`:            "1..sup",
		`\/(1, 3)`:                     `1\/3`,
		`\/(3, 1)`:                     `1\/3`,
		`\/(1, 1)`:                     "1",
		`\/(..(3, 1), ..(sup, 3))`:     "none",
		`\/(..(3, 1), 4)`:              "4",
		`\/(\/(7, 5), \/(1, ..(2,5)))`: `1..5\/7`,
		`\/(1, \/(3, \/(5, 7)))`:       `1\/3\/5\/7`,
	} {
		checkRead(t, sample.Read(x), want)
	}
}

// P9.5: the whole term is told, wherever it is no set.
func TestReadOfNoSet(t *testing.T) {
	for _, text := range []string{
		"_", "a", "inf", "sup", "[]", "{}", "1.5", "1.0", "..(a, 3)", "..(3, a)", "..(_, 3)", "..(3, _)", "..(1.0, 3)", "..(1, 3.0)", "..(..(1, 2), 3)", "..(1, \\/(2, 3))", "..(inf, inf(1))", "..(sup(1), 3)",
		"..(1)", "..(1, 2, 3)", "'..'", `\/(1)`, `\/(1, 2, 3)`, `'\\/'`, "f(1, 3)", "-(1, 3)", "/\\(1, 3)", "...(1, 3)", "[1]", "[1|3]", "{1}", "-(5)", "1 + 2",
		`\/(_, 1)`, `\/(1, _)`, `\/(1, a)`, `\/(a, 1)`, `\/(inf, 1)`, `\/(1, sup)`, `\/(1, ..(1, a))`, `\/(\/(1, a), 3)`, `\/(1, \/(3, 1.5))`, `\/(..(3, 1), ..(a, b))`, `\/(f(_, X, X), 3)`,
	} {
		checkRead(t, sample.Read(text), noSet(sample.Read(text)))
	}
	long := tree.Of("..", tree.Int(1), sample.Wide(api.MaxNodes-2))
	checkRead(t, long, noSet(long))
}

// R7: of a tree that may not be that is told, ahead of all else.
func TestReadOfMistakes(t *testing.T) {
	for _, m := range sample.Mistakes() {
		want := "error " + strconv.Itoa(int(m.Errno))
		checkRead(t, m.Term, want)
		if m.Errno != api.ErrTermNodes {
			checkRead(t, tree.Of("..", tree.Int(1), m.Term), want)
			checkRead(t, tree.Of(`\/`, tree.Atom("a"), m.Term), want)
		}
	}
	checkRead(t, tree.Digits(number("max+1").String()), "error 22")
	checkRead(t, tree.Of("..", tree.Digits(number("-max").String()), tree.Digits(number("max").String())), "-max..max")
}

// union is the terms in one, from the left or from the right.
func union(l []api.Term, fromRight bool) api.Term {
	l = slices.Clone(l)
	if fromRight {
		slices.Reverse(l)
	}
	out := l[0]
	for _, x := range l[1:] {
		if fromRight {
			out = tree.Of(`\/`, x, out)
		} else {
			out = tree.Of(`\/`, out, x)
		}
	}
	return out
}

// P9.5, the section Errors: a set of too many ranges is refused, and only if
// it is the one that is answered.
func TestReadOfManyRanges(t *testing.T) {
	var single []api.Term
	for i := range 3 * api.MaxRanges / 2 {
		single = append(single, tree.Int(2*i))
	}
	most := single[:api.MaxRanges]
	for _, fromRight := range []bool{false, true} {
		checkRead(t, union(most, fromRight), show(apart(api.MaxRanges, 0, 2)))
		checkRead(t, union(single[:api.MaxRanges+1], fromRight), tooMany)
		checkRead(t, union(append(slices.Clone(single), sample.Read("..(inf, sup)")), fromRight), "inf..sup")
		checkRead(t, union(append(slices.Clone(single), tree.Int(1)), fromRight), tooMany)
		checkRead(t, union(append(slices.Clone(most), tree.Int(1), tree.Int(2*api.MaxRanges)), fromRight), `0..2\/`+show(apart(api.MaxRanges-1, 4, 2)))
		bad := union(append(slices.Clone(single), tree.Atom("a")), fromRight)
		checkRead(t, bad, noSet(bad))
	}
}

// thrownTerm is a term that is mostly a set.
func thrownTerm(d *sample.Dice, depth int) api.Term {
	side := func(name string) api.Term {
		switch d.Next(60) {
		case 0:
			return sample.Throw(d, tree.Var(0), tree.Atom("a"), sample.Float(1), tree.Of("..", tree.Int(1), tree.Int(2)))
		case 1, 2, 3, 4, 5, 6:
			return tree.Atom(name)
		}
		return tree.Int(d.Next(30) - 15)
	}
	switch d.Next(5) {
	case 0:
		return side("inf")
	case 1, 2:
		return tree.Of("..", side("inf"), side("sup"))
	}
	if depth == 0 {
		return tree.Int(d.Next(30) - 15)
	}
	return tree.Of(`\/`, thrownTerm(d, depth-1), thrownTerm(d, depth-1))
}

// wantedRead is what the chapter asks of Read.
func wantedRead(t api.Term) string {
	in, is := membersOfTerm(t)
	if !is {
		return noSet(t)
	}
	var near []*big.Int
	for n := range int64(40) {
		near = append(near, big.NewInt(n-20))
	}
	return answered(spans(in, near))
}

func membersOfTerm(t api.Term) (members, bool) {
	isInteger := func(x api.Term) bool { return x.Kind == api.Integer }
	isEnd := func(x api.Term) bool { return isInteger(x) || sample.Show(x) == `"inf"` || sample.Show(x) == `"sup"` }
	switch {
	case isInteger(t):
		return membersOf(set(t.Num)), true
	case t.Kind == api.Compound && t.Name == ".." && isEnd(t.Args[0]) && isEnd(t.Args[1]):
		shown := strings.NewReplacer(`"`, "", ",", "..").Replace(sample.ShowAll(t.Args))
		return membersOf(set(shown)), true
	case t.Kind == api.Compound && t.Name == `\/`:
		a, isA := membersOfTerm(t.Args[0])
		b, isB := membersOfTerm(t.Args[1])
		return func(x *big.Int) bool { return a(x) || b(x) }, isA && isB
	}
	return nil, false
}

// P9.5.
func TestReadOfThrownTerms(t *testing.T) {
	d := sample.Dice(95)
	sets := 0
	for range 4000 {
		x := thrownTerm(&d, d.Next(4))
		want := wantedRead(x)
		checkRead(t, x, want)
		if !strings.HasPrefix(want, "thrown") {
			sets++
		}
	}
	if sets < 1000 || sets > 3900 {
		t.Errorf("%d sets were thrown", sets)
	}
}
