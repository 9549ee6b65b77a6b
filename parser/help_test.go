package parser_test

import (
	"errors"
	"fmt"
	"math"
	"slices"
	"strconv"
	"strings"
	"testing"

	"hornbeam/api"
	"hornbeam/ops"
	"hornbeam/parser"
	"hornbeam/tree"
)

func atom(name string) api.Term { return tree.Atom(name) }

func num(digits string) api.Term { return tree.Digits(digits) }

func float(f float64) api.Term { return tree.Float(math.Float64bits(f)) }

func v(n int) api.Term { return tree.Var(n) }

func f(name string, args ...api.Term) api.Term { return tree.Of(name, args...) }

func list(l ...api.Term) api.Term { return tree.List(l, atom("[]")) }

// equal looks at every field.
func equal(a, b api.Term) bool {
	return a.Kind == b.Kind && a.Name == b.Name && a.Num == b.Num && a.Bits == b.Bits && a.Var == b.Var && slices.EqualFunc(a.Args, b.Args, equal)
}

// told is what Read tells: an answer, and the word of the ball, if there is one.
type told struct {
	read api.Read
	word string
}

func (w told) equal(x told) bool {
	a, b := w.read, x.read
	return w.word == x.word && equal(a.Term, b.Term) && slices.Equal(a.Names, b.Names) && slices.Equal(a.Singles, b.Singles) && a.Next == b.Next && a.End == b.End
}

func (w told) String() string {
	names := ""
	for _, n := range w.read.Names {
		names += fmt.Sprintf(" %s=_%d", n.Name, n.Var)
	}
	return short(fmt.Sprintf("%s%s (names%s, singles %v, next %d, end %v)", w.word, show(w.read.Term), names, w.read.Singles, w.read.Next, w.read.End))
}

func short(text string) string {
	if len(text) > 300 {
		return fmt.Sprintf("%s.. (%d bytes)", text[:300], len(text))
	}
	return text
}

// show is a term without operators.
func show(t api.Term) string {
	switch t.Kind {
	case 0:
		return ""
	case api.Var:
		return "_" + strconv.Itoa(t.Var)
	case api.Atom:
		return strconv.Quote(t.Name)
	case api.Integer:
		return t.Num
	case api.Float:
		return fmt.Sprintf("%gf", math.Float64frombits(t.Bits))
	}
	var parts []string
	for _, part := range t.Args {
		parts = append(parts, show(part))
	}
	return strconv.Quote(t.Name) + "(" + strings.Join(parts, ",") + ")"
}

// wordOf is the word of a ball that is a syntax error, and nothing else.
func wordOf(err error) string {
	var ball *api.Ball
	if err == nil || !errors.As(err, &ball) || len(ball.Term.Args) != 1 {
		return fmt.Sprint("no ball: ", err)
	}
	word := ball.Term.Args[0].Name
	if !equal(ball.Term, f("syntax_error", atom(word))) {
		return "no syntax error: " + show(ball.Term)
	}
	return word
}

func readAt(text string, at int, o *ops.Table, quotes int) told {
	r, err := parser.Read(text, at, o, api.Flags{Quotes: quotes})
	if err == nil {
		return told{read: r}
	}
	return told{r, wordOf(err)}
}

func read(text string, o *ops.Table) told { return readAt(text, 0, o, api.QCodes) }

// check looks at an answer, and at the same one behind other text, and ahead
// of other text.
func check(t *testing.T, text string, o *ops.Table, want told) {
	t.Helper()
	if got := read(text, o); !got.equal(want) {
		t.Errorf("Read(%q) tells %v; want %v", short(text), got, want)
	}
	const ahead = "x(Y). '"
	want.read.Next += len(ahead)
	if got := readAt(ahead+text, len(ahead), o, api.QCodes); !got.equal(want) {
		t.Errorf("Read(%q) behind other text tells %v; want %v", short(text), got, want)
	}
}

// checkTerm looks at the term of a clause whose point ends the text.
func checkTerm(t *testing.T, text string, o *ops.Table, want api.Term) {
	t.Helper()
	r := read(text, o)
	if r.word != "" || !equal(r.read.Term, want) || r.read.Next != len(text) || r.read.End {
		t.Errorf("Read(%q) tells %v; want %s", short(text), r, show(want))
	}
}

// checkWrong looks at what is wrong with a text, and where it is gone on from.
func checkWrong(t *testing.T, text string, o *ops.Table, word string, next int) {
	t.Helper()
	check(t, text, o, told{api.Read{Next: next}, word})
}

// add makes a name an operator, which it must be able to be.
func add(t *testing.T, o *ops.Table, priority int, kind, name string) {
	t.Helper()
	if e := o.Add(priority, ops.Type(kind), name); e != api.OK {
		t.Fatalf("Add(%d, %s, %q): %v", priority, kind, name, e)
	}
}

// rich is a table with operators of each type.
func rich(t *testing.T) *ops.Table {
	t.Helper()
	o := ops.New()
	add(t, o, 200, "xf", "pp")
	add(t, o, 700, "yf", "qq")
	add(t, o, 300, "fx", "not")
	add(t, o, 1150, "fx", "dynamic")
	add(t, o, 400, "fy", "both")
	add(t, o, 400, "xf", "both")
	add(t, o, 1, "xfx", "one")
	add(t, o, 1200, "yfx", "top")
	add(t, o, 250, "fy", "")
	add(t, o, 650, "xfy", "")
	return o
}

// dice throws numbers by a rule of its own, the same ones each time.
type dice struct{ state uint64 }

func (d *dice) next(n int) int {
	d.state = d.state*6364136223846793005 + 1442695040888963407
	return int(d.state>>33) % n
}

func throw[T any](d *dice, l []T) T { return l[d.next(len(l))] }
