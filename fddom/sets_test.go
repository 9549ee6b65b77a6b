package fddom_test

import (
	"slices"
	"strings"
	"testing"

	"hornbeam/api"
	"hornbeam/fddom"
	"hornbeam/sample"
)

// P9.1.
func TestNorm(t *testing.T) {
	for a, want := range map[string]string{
		`5..7\/3..4\/9..8\/7..10`:      "3..10",
		`1..2\/4..5`:                   `1..2\/4..5`,
		`4..5\/1..2`:                   `1..2\/4..5`,
		`1..2\/3..5`:                   "1..5",
		`1..9\/2..3\/12`:               `1..9\/12`,
		`1..2\/1..9\/1..4`:             "1..9",
		"none":                         "none",
		"9..8":                         "none",
		"sup..inf":                     "none",
		"sup..sup":                     "none",
		"inf..inf":                     "none",
		"5..inf":                       "none",
		"sup..5":                       "none",
		`5..sup\/inf..4`:               "inf..sup",
		`6..sup\/inf..4`:               `inf..4\/6..sup`,
		`inf..4\/inf..7`:               "inf..7",
		`3..sup\/5..sup`:               "3..sup",
		`-max\/max`:                    `-max\/max`,
		`max\/max-1`:                   "max-1..max",
		`max\/max-2`:                   `max-2\/max`,
		`-max\/-max+1`:                 "-max..-max+1",
		`inf.. -max\/-max+1..sup`:      "inf..sup",
		`max..sup\/-max+1..max-1`:      "-max+1..sup",
		"max+1":                        tooLong,
		"-max-1":                       tooLong,
		"max+1..inf":                   tooLong,
		"sup..max+1":                   tooLong,
		`1..2\/inf.. -max-1`:           tooLong,
		`1..max+1\/3`:                  tooLong,
		`max+2..max+1`:                 tooLong,
		`inf..sup\/7..max+1\/inf..sup`: tooLong,
	} {
		check(t, "Norm", a, "none", "0", want)
		if got := saidSet(fddom.Norm(loose(set(a)))); got != want {
			t.Errorf("Norm of %s, loose: %s; want %s", a, got, want)
		}
	}
}

// P9.1: Of and All.
func TestOf(t *testing.T) {
	for _, c := range [][3]string{
		{"1", "3", "1..3"}, {"3", "3", "3"}, {"4", "3", "none"}, {"-5", "0", "-5..0"}, {"-max", "max", "-max..max"}, {"max", "-max", "none"},
		{"max", "max", "max"}, {"1", "max+1", tooLong}, {"-max-1", "1", tooLong}, {"max+1", "0", tooLong}, {"0", "-max-1", tooLong},
	} {
		lo, hi := integer(c[0]), integer(c[1])
		if got := saidSet(fddom.Of(lo, hi)); got != c[2] {
			t.Errorf("Of(%s, %s): %s; want %s", c[0], c[1], got, c[2])
		}
		if got := saidSet(fddom.Of(looseInt(lo), looseInt(hi))); got != c[2] {
			t.Errorf("Of(%s, %s), loose: %s; want %s", c[0], c[1], got, c[2])
		}
	}
	if got := show(fddom.All()); got != "inf..sup" {
		t.Errorf("All(): %s", got)
	}
}

// P9.1.
func TestHas(t *testing.T) {
	for _, c := range [][3]string{
		{`1..3\/5`, "1", "true"}, {`1..3\/5`, "3", "true"}, {`1..3\/5`, "4", "false"}, {`1..3\/5`, "5", "true"}, {`1..3\/5`, "6", "false"}, {`1..3\/5`, "0", "false"},
		{"inf..5", "5", "true"}, {"inf..5", "6", "false"}, {"inf..5", "-max", "true"}, {"5..sup", "max", "true"}, {"5..sup", "4", "false"}, {"none", "0", "false"}, {"inf..sup", "-max", "true"},
		{"9..8", "8", "false"}, {"9..8", "9", "false"}, {"max", "max", "true"}, {"max", "max-1", "false"}, {"none", "max+1", tooLong}, {"inf..sup", "-max-1", tooLong}, {"1..max+1", "1", tooLong},
	} {
		check(t, "Has", c[0], "none", c[1], c[2])
	}
}

// P9.1.
func TestSame(t *testing.T) {
	for _, c := range [][3]string{
		{`1..2\/3..4`, "1..4", "true"}, {"none", "9..8", "true"}, {`1\/3`, `3\/1\/1`, "true"}, {"1..3", "1..4", "false"}, {"1..4", "0..4", "false"}, {`1..2\/4`, "1..4", "false"}, {`1..2\/4`, "1..2", "false"},
		{"inf..4", "inf..4", "true"}, {"inf..4", "-max..4", "false"}, {"4..sup", "4..max", "false"}, {`inf..4\/5..sup`, "inf..sup", "true"}, {"none", "0", "false"}, {"inf..sup", "none", "false"},
		{"1", "max+1", tooLong}, {"-max-1", "1", tooLong},
	} {
		check(t, "Same", c[0], c[1], "0", c[2])
		check(t, "Same", c[1], c[0], "0", c[2])
	}
}

// P9.2.
func TestInterUnionMinus(t *testing.T) {
	for _, c := range [][5]string{
		{`inf..5\/8..sup`, "3..9", `3..5\/8..9`, "inf..sup", `inf..2\/10..sup`},
		{"inf..sup", "3..9", "3..9", "inf..sup", `inf..2\/10..sup`},
		{"1..2", "3..sup", "none", "1..sup", "1..2"},
		{"1..2", "4..5", "none", `1..2\/4..5`, "1..2"},
		{"1..9", "3..4", "3..4", "1..9", `1..2\/5..9`},
		{"3..4", "1..9", "3..4", "1..9", "none"},
		{"1..5", "1..5", "1..5", "1..5", "none"},
		{"1..5", "5..9", "5", "1..9", "1..4"},
		{"1..5", "1..3", "1..3", "1..5", "4..5"},
		{"1..5", "3..5", "3..5", "1..5", "1..2"},
		{"none", "1..5", "none", "1..5", "none"},
		{"1..5", "none", "none", "1..5", "1..5"},
		{`0\/2\/4`, `1\/3`, "none", "0..4", `0\/2\/4`},
		{"inf..4", "5..sup", "none", "inf..sup", "inf..4"},
		{"inf..4", "inf..2", "inf..2", "inf..4", "3..4"},
		{"2..sup", "4..sup", "4..sup", "2..sup", "2..3"},
		{"inf..sup", "inf..sup", "inf..sup", "inf..sup", "none"},
		{"5..max", "7..max", "7..max", "5..max", "5..6"},
		{"-max..9", "-max..7", "-max..7", "-max..9", "8..9"},
		{"5..sup", "max", "max", "5..sup", tooLong},
		{"inf..5", "-max", "-max", "inf..5", tooLong},
		{"5..sup", "max-1", "max-1", "5..sup", `5..max-2\/max..sup`},
		{"inf..5", "-max+1", "-max+1", "inf..5", `inf..-max\/-max+2..5`},
		{"inf..sup", "5..max", "5..max", "inf..sup", tooLong},
		{"max..sup", "max", "max", "max..sup", tooLong},
		{"5..max", "max", "max", "5..max", "5..max-1"},
		{"1..2", "max+1", tooLong, tooLong, tooLong},
		{"-max-1", "inf..sup", tooLong, tooLong, tooLong},
	} {
		for i, name := range []string{"Inter", "Union", "Minus"} {
			check(t, name, c[0], c[1], "0", c[2+i])
		}
	}
}

// P9.3.
func TestEndsAndSize(t *testing.T) {
	for _, c := range [][3]string{
		{`3..5\/8..sup`, "3 sup", "false"}, {`8..sup\/3..5`, "3 sup", "false"}, {`1..3\/5`, "1 5", "4"}, {`5\/1..3\/2..3`, "1 5", "4"}, {"1..sup", "1 sup", "false"}, {"inf..7", "inf 7", "false"},
		{"inf..sup", "inf sup", "false"}, {"none", "false", "0"}, {"9..8", "false", "0"}, {"sup..inf", "false", "0"}, {"0", "0 0", "1"}, {"-7", "-7 -7", "1"},
		{"1..max", "1 max", "max"}, {"0..max", "0 max", tooLong}, {"-max..0", "-max 0", tooLong}, {"-max.. -1", "-max -1", "max"}, {"-max..max", "-max max", tooLong},
		{`-1\/1..max`, "-1 max", tooLong}, {`1..max-2\/max`, "1 max", "max-1"}, {`-3\/max-1..max`, "-3 max", "3"}, {`-max..max-2\/max..sup`, "-max sup", "false"}, {`inf.. -max\/-max+2..max`, "inf max", "false"},
		{"max+1", tooLong, tooLong}, {"inf..max+1", tooLong, tooLong},
	} {
		check(t, "Ends", c[0], "none", "0", c[1])
		check(t, "Size", c[0], "none", "0", c[2])
	}
}

// P9.3.
func TestNext(t *testing.T) {
	for _, c := range [][3]string{
		{`1..3\/7`, "3", "7"}, {"1..3", "3", "false"}, {"1..3", "2", "3"}, {"1..3", "0", "1"}, {"1..3", "-9", "1"}, {`1..3\/7`, "6", "7"}, {`1..3\/7`, "7", "false"}, {`7\/1..3`, "0", "1"},
		{"none", "0", "false"}, {"9..8", "0", "false"}, {"inf..3", "-max", "-max+1"}, {"inf..3", "3", "false"}, {"3..sup", "9", "10"}, {"3..sup", "-9", "3"}, {"inf..sup", "0", "1"},
		{`-3\/0\/3`, "-1", "0"}, {"3..sup", "max-1", "max"}, {"3..sup", "max", tooLong}, {"inf..sup", "max", tooLong}, {"3..max", "max", "false"}, {"max", "max-1", "max"}, {"max", "-max", "max"},
		{"1..3", "max+1", tooLong}, {"1..3", "-max-1", tooLong}, {"1..max+1", "1", tooLong},
	} {
		check(t, "Next", c[0], "none", c[1], c[2])
	}
}

// P9.4.
func TestShift(t *testing.T) {
	for _, c := range [][3]string{
		{`1..3\/7`, "-5", `-4..-2\/2`}, {`1..3\/7`, "0", `1..3\/7`}, {`7\/2..3\/1`, "10", `11..13\/17`}, {"inf..3", "4", "inf..7"}, {"3..sup", "-4", "-1..sup"}, {"inf..sup", "max", "inf..sup"}, {"none", "5", "none"},
		{"9..8", "max", "none"}, {"0..max-1", "1", "1..max"}, {"0..max", "1", tooLong}, {"-max", "-1", tooLong}, {"-max", "max", "0"}, {"max", "-max", "0"}, {"max..sup", "1", tooLong}, {"inf.. -max", "-1", tooLong},
		{`1\/max`, "1", tooLong}, {"1..3", "max+1", tooLong}, {"none", "-max-1", tooLong}, {"max+1", "-1", tooLong},
	} {
		check(t, "Shift", c[0], "none", c[1], c[2])
	}
}

// P9.4.
func TestScale(t *testing.T) {
	for _, c := range [][3]string{
		{`1..3\/7`, "-2", `-14\/-6..-2`}, {`1..3\/7`, "2", `2..6\/14`}, {`1..3\/7`, "1", `1..3\/7`}, {`1..3\/7`, "-1", `-7\/-3..-1`}, {`1\/2\/3`, "4", "4..12"}, {`1\/3`, "2", `2\/6`},
		{`1..3\/7`, "0", "0"}, {"none", "0", "none"}, {"9..8", "0", "none"}, {"inf..sup", "0", "0"}, {"5..sup", "0", "0"}, {"inf..sup", "-3", "inf..sup"}, {"inf..5", "2", "inf..10"}, {"inf..5", "-2", "-10..sup"},
		{"5..sup", "2", "10..sup"}, {"5..sup", "-2", "inf..-10"}, {`inf.. -3\/4..sup`, "-2", `inf..-8\/6..sup`}, {"none", "max", "none"}, {"-1..1", "max", "-max..max"}, {"-1..1", "-max", "-max..max"},
		{"0..2", "max", tooLong}, {"-2..0", "-max", tooLong}, {"max", "0", "0"}, {"max", "-1", "-max"}, {"max", "2", tooLong}, {"1", "max+1", tooLong}, {"none", "max+1", tooLong}, {"max+1", "0", tooLong},
	} {
		check(t, "Scale", c[0], "none", c[1], c[2])
	}
}

// P9.4.
func TestParts(t *testing.T) {
	for _, c := range [][3]string{
		{`1..7\/9`, "3", "1..3"}, {`1..7\/9`, "-3", "-3..-1"}, {"2", "0", "none"}, {"0", "0", "inf..sup"}, {"-3..3", "0", "inf..sup"}, {`-3.. -1\/1..3`, "0", "none"}, {"inf..sup", "0", "inf..sup"}, {"none", "0", "none"}, {"1..sup", "0", "none"},
		{`1..7\/9`, "1", `1..7\/9`}, {`1..7\/9`, "-1", `-9\/-7..-1`}, {"-7..7", "2", "-3..3"}, {"-7..7", "-2", "-3..3"}, {"7", "2", "none"}, {"-7", "2", "none"}, {"8", "2", "4"}, {"8", "-2", "-4"}, {"7..8", "2", "4"}, {"-8.. -7", "2", "-4"}, {"-8.. -7", "-2", "4"},
		{"inf..7", "2", "inf..3"}, {"inf..7", "-2", "-3..sup"}, {"inf.. -7", "2", "inf..-4"}, {"-7..sup", "2", "-3..sup"}, {"7..sup", "2", "4..sup"}, {"7..sup", "-2", "inf..-4"}, {"inf..sup", "-7", "inf..sup"}, {"none", "5", "none"},
		{"max", "max", "1"}, {"max", "-max", "-1"}, {"-max..max", "max", "-1..1"}, {"-max", "-1", "max"}, {"max-1", "max", "none"}, {"-max+1", "max", "none"}, {`0..2\/4..6`, "7", "0"}, {`0\/2\/4\/6`, "2", "0..3"},
		{"1", "max+1", tooLong}, {"none", "-max-1", tooLong}, {"max+1", "0", tooLong}, {"max+1", "1", tooLong},
	} {
		check(t, "Parts", c[0], "none", c[1], c[2])
	}
}

// The section Errors: a set of MaxRanges ranges, normal, is no mistake, however
// many ranges are handed in; one of one more is.
func TestManyRanges(t *testing.T) {
	most, more := apart(api.MaxRanges, 0, 2), apart(api.MaxRanges+1, 0, 2)
	filled := append(slices.Clone(more), apart(api.MaxRanges+1, 1, 2)...)
	long := append(slices.Clone(more), set("max+1")...)
	one := integer("1")
	for _, name := range ofAll() {
		checkOf(t, name, more, nil, one, tooMany)
		checkOf(t, name, long, nil, one, tooLong)
		want := wanted(name, most, nil, one)
		checkOf(t, name, most, nil, one, want)
		checkOf(t, name, append(slices.Clone(most), most...), nil, one, want)
		checkOf(t, name, filled, nil, one, wanted(name, set("0..2001"), nil, one))
	}
	for _, name := range ofNumber() {
		checkOf(t, name, more, nil, integer("max+1"), tooLong)
		checkOf(t, name, more, nil, api.Int{}, tooMany)
	}
	for _, name := range ofTwo() {
		checkOf(t, name, nil, more, one, tooMany)
		checkOf(t, name, more, set("max+1"), one, tooLong)
		checkOf(t, name, set("-max-1"), more, one, tooLong)
		checkOf(t, name, set("inf..sup"), more, one, tooMany)
		checkOf(t, name, nil, filled, one, wanted(name, nil, set("0..2001"), one))
	}
}

// The section Errors: so it is of what is answered; what is too long is told
// ahead.
func TestManyRangesThatAreAnswered(t *testing.T) {
	most, half := apart(api.MaxRanges, 0, 4), apart(api.MaxRanges/2, 1000000, 4)
	all := set("inf..sup")
	for _, c := range []struct {
		name string
		a, b []api.Range
		want string
	}{
		{"Union", most, set("-5"), tooMany},
		{"Union", most, set("1"), ""},
		{"Union", most, set("2"), tooMany},
		{"Union", half, apart(api.MaxRanges/2, 0, 4), ""},
		{"Union", half, apart(api.MaxRanges/2+1, 0, 4), tooMany},
		{"Union", most, apart(api.MaxRanges, 2, 4), tooMany},
		{"Union", most, all, ""},
		{"Inter", most, all, ""},
		{"Minus", all, apart(api.MaxRanges-1, 0, 4), ""},
		{"Minus", all, most, tooMany},
		{"Minus", set("0..sup"), most, ""},
		{"Minus", set("-1..sup"), most, tooMany},
		{"Minus", all, append(apart(api.MaxRanges-1, 0, 4), set("max")...), tooLong},
		{"Minus", all, append(apart(api.MaxRanges-1, 0, 4), set("-max")...), tooLong},
		{"Minus", all, append(apart(api.MaxRanges-1, 0, 4), set("max-1")...), tooMany},
	} {
		want := wanted(c.name, c.a, c.b, api.Int{})
		if c.want != "" && c.want != want {
			t.Errorf("%s of %s, %s: the model wants %s", c.name, short(c.a), short(c.b), want)
		}
		checkOf(t, c.name, c.a, c.b, api.Int{}, want)
	}
}

// The section Errors: two sets that share more ranges than either has.
func TestManyRangesInCommon(t *testing.T) {
	const half = api.MaxRanges / 2
	for _, c := range []struct {
		a, b int
		want string
	}{{half + 1, half, ""}, {half, half + 1, ""}, {half + 1, half + 1, tooMany}} {
		a, b := rows(c.a, 0, 10, 7), rows(c.b, 5, 10, 7)
		want := wanted("Inter", a, b, api.Int{})
		if strings.HasPrefix(want, "error") != (c.want != "") {
			t.Errorf("%d and %d: the model wants %s", c.a, c.b, sample.Short(want))
		}
		checkOf(t, "Inter", a, b, api.Int{}, want)
		checkOf(t, "Inter", b, a, api.Int{}, want)
	}
}
