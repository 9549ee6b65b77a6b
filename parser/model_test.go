package parser_test

import (
	"fmt"
	"math"
	"slices"
	"strings"
	"testing"

	"hornbeam/api"
	"hornbeam/lexer"
	"hornbeam/ops"
	"hornbeam/parser"
	"hornbeam/sample"
	"hornbeam/term"
)

// model reads by the chapter's words: what it has come to is a place among the
// tokens, and whether the one there cannot stand. A variable's number is for
// now the place of its token.
type model struct {
	tokens []api.Token
	ops    *ops.Table
	quotes int
}

// come is what a part comes to.
type come struct {
	term     api.Term
	priority int
	at       int
	stuck    bool
}

func (m model) punct(i int, text string) bool {
	return m.tokens[i].Kind == api.TPunct && m.tokens[i].Text == text
}

func (m model) name(i int) bool {
	return m.tokens[i].Kind == api.TName || m.tokens[i].Kind == api.TQuoted
}

func (m model) number(i int) bool {
	return (m.tokens[i].Kind == api.TInt || m.tokens[i].Kind == api.TFloat) && !m.tokens[i].Layout
}

func (m model) minus(i int) bool {
	return m.tokens[i].Kind == api.TName && m.tokens[i].Text == "-"
}

// row reads terms of 999, as long as commas follow.
func (m model) row(i int) ([]api.Term, come) {
	c := m.term(i, 999)
	out := []api.Term{c.term}
	for !c.stuck && m.punct(c.at, ",") {
		c = m.term(c.at+1, 999)
		out = append(out, c.term)
	}
	return out, c
}

// closed is a part whose bracket must follow.
func (m model) closed(c come, bracket string, t api.Term) come {
	switch {
	case c.stuck:
		return c
	case !m.punct(c.at, bracket):
		return come{at: c.at, stuck: true}
	}
	return come{term: t, at: c.at + 1}
}

func (m model) left(i, most int) come {
	k := m.tokens[i]
	switch k.Kind {
	case api.TInt:
		return come{term: num(k.Num), at: i + 1}
	case api.TFloat:
		return come{term: float(math.Float64frombits(k.Bits)), at: i + 1}
	case api.TVar:
		return come{term: v(i), at: i + 1}
	case api.TString:
		return come{term: characters(k.Text, m.quotes), at: i + 1}
	case api.TBack:
		return come{term: characters(k.Text, api.QCodes), at: i + 1}
	case api.TName, api.TQuoted:
		return m.named(k.Text, i, i+1, most)
	case api.TPunct:
		return m.bracket(i, most)
	}
	return come{at: i, stuck: true}
}

func characters(text string, quotes int) api.Term {
	if quotes == api.QAtom {
		return atom(text)
	}
	var l []api.Term
	for _, char := range []rune(text) {
		if quotes == api.QChars {
			l = append(l, atom(string(char)))
		} else {
			l = append(l, num(fmt.Sprint(int(char))))
		}
	}
	return list(l...)
}

func (m model) bracket(i, most int) come {
	switch text := m.tokens[i].Text; {
	case text == "(":
		c := m.term(i+1, 1200)
		return m.closed(c, ")", c.term)
	case text == "[" && m.punct(i+1, "]"):
		return m.named("[]", i, i+2, most)
	case text == "{" && m.punct(i+1, "}"):
		return m.named("{}", i, i+2, most)
	case text == "{":
		c := m.term(i+1, 1200)
		return m.closed(c, "}", f("{}", c.term))
	case text == "[":
		l, c := m.row(i + 1)
		end := atom("[]")
		if !c.stuck && m.punct(c.at, "|") {
			c = m.term(c.at+1, 999)
			end = c.term
		}
		for _, element := range slices.Backward(l) {
			end = f(".", element, end)
		}
		return m.closed(c, "]", end)
	}
	return come{at: i, stuck: true}
}

// named reads what begins with a name, whose first token is i, and behind which
// is the token next.
func (m model) named(name string, i, next, most int) come {
	if m.punct(next, "(") && !m.tokens[next].Layout {
		l, c := m.row(next + 1)
		return m.closed(c, ")", f(name, l...))
	}
	if m.minus(i) && m.number(next) {
		return come{term: below(m.tokens[next]), at: next + 1}
	}
	x, is := m.ops.Prefix(name)
	if !is || x.Priority > most || !m.begins(next) {
		return come{term: atom(name), at: next}
	}
	_, side := ops.Sides(x)
	c := m.term(next, side)
	if c.stuck {
		return c
	}
	return come{term: f(name, c.term), priority: x.Priority, at: c.at}
}

func below(k api.Token) api.Term {
	switch {
	case k.Kind == api.TFloat && math.Float64frombits(k.Bits) == 0:
		return float(0)
	case k.Kind == api.TFloat:
		return float(-math.Float64frombits(k.Bits))
	case k.Num == "0":
		return num("0")
	}
	return num("-" + k.Num)
}

func (m model) begins(i int) bool {
	switch m.tokens[i].Kind {
	case api.TEnd, api.TEof:
		return false
	case api.TPunct:
		return !slices.Contains([]string{")", "]", "}", ",", "|"}, m.tokens[i].Text)
	case api.TName, api.TQuoted:
		_, prefix := m.ops.Prefix(m.tokens[i].Text)
		_, infix := m.ops.Infix(m.tokens[i].Text)
		_, postfix := m.ops.Postfix(m.tokens[i].Text)
		if (infix || postfix) && !prefix && !(m.punct(i+1, "(") && !m.tokens[i+1].Layout) {
			return m.minus(i) && m.number(i+1)
		}
	}
	return true
}

func (m model) term(i, most int) come {
	c := m.left(i, most)
	for !c.stuck {
		if !m.name(c.at) && !m.punct(c.at, ",") && !m.punct(c.at, "|") {
			return c
		}
		name := m.tokens[c.at].Text
		x, infix := m.ops.Infix(name)
		y, postfix := m.ops.Postfix(name)
		before, behind := ops.Sides(x)
		ahead, _ := ops.Sides(y)
		switch {
		case infix && x.Priority <= most && c.priority <= before:
			right := m.term(c.at+1, behind)
			right.term, right.priority = f(name, c.term, right.term), x.Priority
			c = right
		case postfix && y.Priority <= most && c.priority <= ahead:
			c = come{term: f(name, c.term), priority: y.Priority, at: c.at + 1}
		default:
			return c
		}
	}
	return c
}

// expected is what Read must tell.
func expected(text string, at int, o *ops.Table, quotes int) told {
	m := model{ops: o, quotes: quotes}
	for place := at; ; {
		k, e := lexer.Next(text, place)
		if e != api.OK {
			words := map[api.Errno]string{api.ErrLexByte: "illegal_character", api.ErrLexQuote: "unclosed_quote", api.ErrLexEscape: "bad_escape", api.ErrLexComment: "unclosed_comment", api.ErrLexNumber: "number_too_large", api.ErrLexLong: "name_too_long"}
			return told{api.Read{Next: behindPoint(text, k.At)}, words[e]}
		}
		m.tokens = append(m.tokens, k)
		place = k.End
		if k.Kind == api.TEnd || k.Kind == api.TEof {
			break
		}
	}
	if first := m.tokens[0]; first.Kind == api.TEof {
		return told{read: api.Read{End: true, Next: first.At}}
	}
	c := m.term(0, 1200)
	last := m.tokens[c.at]
	if c.stuck || last.Kind != api.TEnd {
		word := map[int]string{api.TEof: "end_of_text", api.TEnd: "end_of_clause"}[last.Kind]
		if word == "" {
			word = "unexpected_token"
		}
		return told{api.Read{Next: behindPoint(text, last.At)}, word}
	}
	out := m.numbered(c.term)
	out.Next = last.End
	return told{read: out}
}

// behindPoint is what Skip must tell.
func behindPoint(text string, at int) int {
	for i := at; i < len(text); i++ {
		if text[i] == '.' && (i+1 == len(text) || strings.IndexByte(" \t\n\v\f\r%", text[i+1]) >= 0) {
			return i + 1
		}
	}
	return len(text)
}

// numbered gives variables their numbers, as they stand in the term.
func (m model) numbered(t api.Term) api.Read {
	places, _ := term.Variables(t)
	var out api.Read
	numbers, times := map[string]int{}, map[string]int{}
	var binds []api.Bind
	count := 0
	for _, place := range places {
		name := m.tokens[place].Text
		n, known := numbers[name]
		if !known || name == "_" {
			n = count
			count++
			numbers[name] = n
			if name != "_" {
				out.Names = append(out.Names, api.Named{Name: name, Var: n})
			}
		}
		times[name]++
		binds = append(binds, api.Bind{Var: place, Term: v(n)})
	}
	for _, n := range out.Names {
		if times[n.Name] == 1 {
			out.Singles = append(out.Singles, n.Name)
		}
	}
	out.Term, _ = term.Put(t, binds)
	return out
}

func checkModel(t *testing.T, text string, at int, o *ops.Table, quotes int) {
	t.Helper()
	want := expected(text, at, o, quotes)
	if got := readAt(text, at, o, quotes); !got.equal(want) {
		t.Fatalf("Read(%q) from %d on tells %v; want %v", text, at, got, want)
	}
	if got, want := parser.Skip(text, at), behindPoint(text, at); got != want {
		t.Fatalf("Skip(%q, %d) tells %d, not %d", text, at, got, want)
	}
}

// All short texts of some parts.
func TestShortTexts(t *testing.T) {
	o := rich(t)
	for _, parts := range [][]string{
		{"a", " a", "-", " -", "1", " 1", "(", " (", ")", ",", "X ", "."},
		{"a ", "- ", "pp ", "not ", "= ", "both ", "(", ")", "'' ", "one "},
		{"[", "]", "{", "}", "|", ",", "a", "-", "(", ")", " "},
		{"a ", ":- ", "top ", "dynamic ", ", ", "\\+ ", "= ", "^ ", "(", ") "},
		{"X ", "_ ", "Y ", "+ ", "- ", "'-'", "1 ", "qq ", "mod "},
	} {
		goThrough("", parts, 4, func(text string) {
			checkModel(t, text+".", 0, o, api.QCodes)
			checkModel(t, text, 0, o, api.QCodes)
		})
	}
}

// goThrough tells all texts of some parts, up to so many of them.
func goThrough(text string, parts []string, more int, tell func(text string)) {
	tell(text)
	for _, part := range parts {
		if more > 0 {
			goThrough(text+part, parts, more-1, tell)
		}
	}
}

// Longer texts, thrown.
func TestMixedTexts(t *testing.T) {
	parts := strings.Fields("a b f( g( 'q' '-' 'pp' - - + * = = , , | ; :- --> \\+ -> ^ : is mod not not pp qq both one top dynamic ( ( ) ) ) [ [ ] ] [] {} { } 1 2.5 0 0.0 -1 X Y _ _Z \"ab\" `c` \"\" 0'a '' ! ")
	rare := []string{". ", ". ", "\n", "% x\n", "/**/", "'", "'\\q'", "é", "\"", "0'", "1.0e999"}
	d := sample.Dice(17)
	tables := []*ops.Table{ops.New(), rich(t)}
	sound := 0
	for range 150000 {
		text := ""
		for range d.Next(14) {
			if text += sample.Throw(&d, parts...); d.Next(2) == 0 {
				text += " "
			}
			if d.Next(60) == 0 {
				text += sample.Throw(&d, rare...)
			}
		}
		if d.Next(8) > 0 {
			text += " ."
		}
		at := 0
		if d.Next(4) == 0 {
			at = d.Next(len(text) + 1)
		}
		o := sample.Throw(&d, tables...)
		checkModel(t, text, at, o, d.Next(5))
		if read(text, o).word == "" {
			sound++
		}
	}
	if sound < 5000 {
		t.Errorf("only %d of the texts are clauses", sound)
	}
}

// grown is a text of an inner shape that is mostly a term.
func grown(d *sample.Dice, depth int) string {
	if depth == 0 {
		return sample.Throw(d, strings.Fields("a b 1 -1 - 0 2.5 X Y _ [] {} '' \"ab\" `c` mod pp = not 'is'")...)
	}
	one := func() string { return grown(d, d.Next(depth)) }
	blank := sample.Throw(d, []string{"", " ", "", " ", "/**/", "\n"}...)
	switch d.Next(9) {
	case 0:
		return "f(" + one() + "," + blank + one() + ")"
	case 1:
		return "[" + one() + blank + "|" + one() + "]"
	case 2:
		return "{" + one() + "}"
	case 3:
		return "(" + one() + ")"
	case 4:
		return sample.Throw(d, strings.Fields("- \\+ not :- both - '-' ''")...) + blank + one()
	case 5:
		return one() + blank + sample.Throw(d, strings.Fields("pp qq both 'pp'")...)
	}
	return one() + blank + sample.Throw(d, strings.Fields("- + , ; :- = is ^ ** * mod one top '' | 'is' : ->")...) + blank + one()
}

// Texts that are mostly terms.
func TestGrownTexts(t *testing.T) {
	d := sample.Dice(23)
	o := rich(t)
	sound := 0
	for range 100000 {
		text := grown(&d, 1+d.Next(5)) + " . "
		checkModel(t, text, 0, o, api.QCodes)
		if read(text, o).word == "" {
			sound++
		}
	}
	if sound < 20000 {
		t.Errorf("only %d of the texts are clauses", sound)
	}
}
