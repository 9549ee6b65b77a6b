package parser_test

import (
	"errors"
	"fmt"
	"slices"
	"testing"

	"hornbeam/api"
	"hornbeam/ops"
	"hornbeam/parser"
	"hornbeam/sample"
	"hornbeam/tree"
)

// Short names for what makes terms and looks at them.
var (
	atom, num, v, f    = tree.Atom, tree.Digits, tree.Var, tree.Of
	float, list        = sample.Float, sample.List
	equal, show, short = sample.Equal, sample.Show, sample.Short
)

// told is what Read tells: an answer, and the word of the ball, if there is one.
type told struct {
	read api.Read
	word string
}

func (w told) equal(x told) bool {
	a, b := w.read, x.read
	return w.word == x.word && equal(a.Term, b.Term) && slices.Equal(a.Names, b.Names) && slices.Equal(a.Singles, b.Singles) && a.Next == b.Next && a.End == b.End
}

func (w told) String() string {
	names := ""
	for _, n := range w.read.Names {
		names += fmt.Sprintf(" %s=_%d", n.Name, n.Var)
	}
	return short(fmt.Sprintf("%s%s (names%s, singles %v, next %d, end %v)", w.word, show(w.read.Term), names, w.read.Singles, w.read.Next, w.read.End))
}

// wordOf is the word of a ball that is a syntax error, and nothing else.
func wordOf(err error) string {
	var ball *api.Ball
	if err == nil || !errors.As(err, &ball) || len(ball.Term.Args) != 1 {
		return fmt.Sprint("no ball: ", err)
	}
	word := ball.Term.Args[0].Name
	if !equal(ball.Term, f("syntax_error", atom(word))) {
		return "no syntax error: " + show(ball.Term)
	}
	return word
}

func readAt(text string, at int, o *ops.Table, quotes int) told {
	r, err := parser.Read(text, at, o, api.Flags{Quotes: quotes})
	if err == nil {
		return told{read: r}
	}
	return told{r, wordOf(err)}
}

func read(text string, o *ops.Table) told { return readAt(text, 0, o, api.QCodes) }

// check looks at an answer, and at the same one behind other text, and ahead
// of other text.
func check(t *testing.T, text string, o *ops.Table, want told) {
	t.Helper()
	if got := read(text, o); !got.equal(want) {
		t.Errorf("Read(%q) tells %v; want %v", short(text), got, want)
	}
	const ahead = "x(Y). '"
	want.read.Next += len(ahead)
	if got := readAt(ahead+text, len(ahead), o, api.QCodes); !got.equal(want) {
		t.Errorf("Read(%q) behind other text tells %v; want %v", short(text), got, want)
	}
}

// checkTerm looks at the term of a clause whose point ends the text.
func checkTerm(t *testing.T, text string, o *ops.Table, want api.Term) {
	t.Helper()
	r := read(text, o)
	if r.word != "" || !equal(r.read.Term, want) || r.read.Next != len(text) || r.read.End {
		t.Errorf("Read(%q) tells %v; want %s", short(text), r, show(want))
	}
}

// checkWrong looks at what is wrong with a text, and where it is gone on from.
func checkWrong(t *testing.T, text string, o *ops.Table, word string, next int) {
	t.Helper()
	check(t, text, o, told{api.Read{Next: next}, word})
}

// add makes a name an operator, which it must be able to be.
func add(t *testing.T, o *ops.Table, priority int, kind, name string) {
	t.Helper()
	if e := o.Add(priority, ops.Type(kind), name); e != api.OK {
		t.Fatalf("Add(%d, %s, %q): %v", priority, kind, name, e)
	}
}

// rich is a table with operators of each type.
func rich(t *testing.T) *ops.Table {
	t.Helper()
	o := ops.New()
	add(t, o, 200, "xf", "pp")
	add(t, o, 700, "yf", "qq")
	add(t, o, 300, "fx", "not")
	add(t, o, 1150, "fx", "dynamic")
	add(t, o, 400, "fy", "both")
	add(t, o, 400, "xf", "both")
	add(t, o, 1, "xfx", "one")
	add(t, o, 1200, "yfx", "top")
	add(t, o, 250, "fy", "")
	add(t, o, 650, "xfy", "")
	return o
}
