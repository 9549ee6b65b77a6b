package parser_test

import (
	"slices"
	"strings"
	"testing"

	"hornbeam/api"
	"hornbeam/lexer"
	"hornbeam/ops"
	"hornbeam/sample"
	"hornbeam/term"
)

// P5.4: what is read is a term that may be, and no number of a variable is left
// out; the names are of its variables.
func TestWhatIsReadMayBe(t *testing.T) {
	d := sample.Dice(31)
	o := rich(t)
	for range 30000 {
		text := grown(&d, 1+d.Next(5)) + " ."
		got := readAt(text, 0, o, d.Next(4))
		if got.word != "" {
			if !equal(got.read.Term, api.Term{}) || len(got.read.Names)+len(got.read.Singles) > 0 || got.read.End {
				t.Fatalf("Read(%q): %v beside what is wrong", text, got)
			}
			continue
		}
		if e := term.Check(got.read.Term); e != api.OK {
			t.Fatalf("Read(%q): %v of %v", text, e, got)
		}
		numbers, _ := term.Variables(got.read.Term)
		for i, n := range numbers {
			if i != n {
				t.Fatalf("Read(%q): variables %v", text, numbers)
			}
		}
		for _, n := range got.read.Names {
			if n.Var >= len(numbers) || n.Name == "_" || !strings.Contains(text, n.Name) {
				t.Fatalf("Read(%q): names %v", text, got.read.Names)
			}
		}
	}
}

// P5.4: layout between tokens changes nothing, but ahead of ( and a number.
func TestLayout(t *testing.T) {
	d := sample.Dice(37)
	o := rich(t)
	blanks := []string{" ", "\n", "\t\v\f\r", " /* a. ' */ ", " % b. \"\n", " /**/"}
	for range 30000 {
		text := grown(&d, 1+d.Next(5)) + " ."
		loose := ""
		for at := 0; ; {
			k, e := lexer.Next(text, at)
			if e != api.OK {
				loose = text
			}
			if e != api.OK || k.Kind == api.TEof {
				break
			}
			touches := !k.Layout && (k.Text == "(" || k.Kind == api.TInt || k.Kind == api.TFloat)
			if !touches {
				loose += sample.Throw(&d, blanks...)
			}
			loose += text[k.At:k.End]
			at = k.End
		}
		want, got := read(text, o), read(loose, o)
		if want.word == "" && want.read.Next == len(text) {
			want.read.Next = len(loose)
		}
		if want.word != "" {
			// A point in a comment ends what is skipped.
			want.read.Next = got.read.Next
		}
		if !got.equal(want) {
			t.Fatalf("Read(%q) tells %v; with less layout, %q, %v", loose, got, text, want)
		}
	}
	checkTerm(t, "- 1 .", o, f("-", num("1")))
	checkTerm(t, "-1 .", o, num("-1"))
	checkTerm(t, "-(1,2).", o, f("-", num("1"), num("2")))
	checkTerm(t, "- (1,2).", o, f("-", f(",", num("1"), num("2"))))
}

// P5.4: operators whose names do not stand there change nothing.
func TestOtherOperators(t *testing.T) {
	d := sample.Dice(41)
	kinds := strings.Fields("fx fy xfx xfy yfx xf yf")
	for range 10000 {
		text := grown(&d, 1+d.Next(5)) + " ."
		o := rich(t)
		want := read(text, o)
		for range 10 {
			name := sample.Throw(&d, strings.Fields("a b f c d e X Y ( ) [ . .. - = == \\+ not pp qq mod is X1 ;; one both \"ab\" ab 97")...)
			if !slices.Contains(namesOf(text), name) {
				o.Add(1+d.Next(1200), ops.Type(sample.Throw(&d, kinds...)), name)
			}
		}
		if got := read(text, o); !got.equal(want) {
			t.Fatalf("Read(%q) tells %v; under less operators %v", text, got, want)
		}
	}
}

func namesOf(text string) []string {
	var out []string
	for k := range lexer.All(text) {
		if k.Kind == api.TName || k.Kind == api.TQuoted {
			out = append(out, k.Text)
		}
	}
	return out
}

// R3, R4, R5: the table stays as it is; the same is told again, whatever was
// done to what was told, and whatever was asked between.
func TestAskedAgainTheSameIsTold(t *testing.T) {
	o := rich(t)
	before := slices.Collect(o.All())
	texts := []string{"f(X, Y, X, [a, b|Z], \"ab\", `c`).", "a = = b.", "'x", "", "-(1) pp.", "{a, _}.", "X - Y - X."}
	var first []told
	for _, text := range texts {
		first = append(first, read(text, o))
	}
	for i := len(texts) - 1; i >= 0; i-- {
		again := read(texts[i], o)
		if !again.equal(first[i]) {
			t.Errorf("Read(%q) tells %v, then %v", texts[i], first[i], again)
		}
		spoil(&again.read)
	}
	for i, text := range texts {
		if again := read(text, o); !again.equal(first[i]) {
			t.Errorf("Read(%q) tells %v, then %v", text, first[i], again)
		}
	}
	if !slices.Equal(slices.Collect(o.All()), before) {
		t.Errorf("the table has become another one")
	}
}

// spoil writes over all lists of an answer, their spare room too.
func spoil(r *api.Read) {
	sample.Spoil(r.Term)
	for i := range r.Names[:cap(r.Names)] {
		r.Names[:cap(r.Names)][i].Name = "spoilt"
	}
	for i := range r.Singles[:cap(r.Singles)] {
		r.Singles[:cap(r.Singles)][i] = "spoilt"
	}
}

// R4: no two lists of one answer share any room.
func TestListsShareNothing(t *testing.T) {
	d := sample.Dice(43)
	o := rich(t)
	for range 3000 {
		text := grown(&d, 1+d.Next(6)) + " ."
		got := read(text, o)
		seen := map[*api.Term]bool{}
		sample.Places(got.read.Term.Args, func(p *api.Term) {
			if seen[p] {
				t.Fatalf("Read(%q): a part stands in two lists", text)
			}
			seen[p] = true
		})
	}
}

// R1: long texts, and deep ones, come to their end.
func TestLongTexts(t *testing.T) {
	const many = 60000
	o := rich(t)
	for _, parts := range [][3]string{
		{"(", "a", ")"}, {"[", "a", "]"}, {"{", "a", "}"}, {"f(", "a", ")"}, {"[a|", "a", "]"},
		{"- ", "a", ""}, {"a - ", "a", ""}, {"a , ", "a", ""}, {"a : ", "a", ""}, {"", "a", " qq"}, {"", "a", " pp"},
		{"[a,", "a", "]"}, {"f(a,", "a", ")"}, {"[", "", ""}, {"(", "", ""}, {"", "", ")"}, {"not ", "", ""}, {"'", "", ""}, {".", "", ""}, {"% ", "\n", ""},
	} {
		text := strings.Repeat(parts[0], many) + parts[1] + strings.Repeat(parts[2], many)
		for _, end := range []string{"", ".", " . x"} {
			got := read(text+end, o)
			if want := parts[0] == "(" && parts[2] == ")" && end != ""; (got.word == "" && !got.read.End) != want {
				t.Errorf("Read(%q): %v", short(text), short(got.word))
			}
		}
	}
	for _, part := range []string{"a,", "X,", "_,", "\"abc\",", "[],"} {
		inner := strings.Repeat(part, many) + "a"
		checkWrong(t, "f("+inner+").", o, "too_large", len(inner)+4)
		checkWrong(t, "["+inner+"].", o, "too_large", len(inner)+3)
		checkWrong(t, "["+inner+"|a] b.", o, "unexpected_token", len(inner)+7)
	}
	checkWrong(t, "\""+strings.Repeat("é", 1000000)+"\".", o, "too_large", 2000003)
}
