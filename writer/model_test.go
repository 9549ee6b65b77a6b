package writer_test

import (
	"fmt"
	"math"
	"math/big"
	"strings"
	"testing"

	"hornbeam/api"
	"hornbeam/ops"
	"hornbeam/sample"
	"hornbeam/writer"
)

// model writes by the chapter's words, in their order.
type model struct {
	ops *ops.Table
	how api.WriteOptions
}

func (m model) name(name string) string {
	if m.how.Quoted {
		return expectedAtom(name)
	}
	return name
}

func is(t api.Term, name string, arity int) bool {
	return t.Kind == api.Compound && t.Name == name && len(t.Args) == arity
}

func (m model) text(t api.Term, priority int, operand bool) string {
	switch t.Kind {
	case api.Var:
		return fmt.Sprintf("_%d", t.Var)
	case api.Integer:
		return t.Num
	case api.Float:
		return expectedFloat(math.Float64frombits(t.Bits))
	case api.Atom:
		if operand && m.ops.Is(t.Name) {
			return "(" + m.name(t.Name) + ")"
		}
		return m.name(t.Name)
	}
	if n, is := m.letter(t); is {
		quo, rem := new(big.Int).DivMod(n, big.NewInt(26), new(big.Int))
		text := string("ABCDEFGHIJKLMNOPQRSTUVWXYZ"[rem.Int64()])
		if quo.Sign() > 0 {
			text += quo.String()
		}
		return text
	}
	if !m.how.IgnoreOps {
		switch {
		case is(t, ".", 2):
			return "[" + m.inList(t) + "]"
		case is(t, "{}", 1):
			return "{" + m.text(t.Args[0], 1200, false) + "}"
		}
		if text, p, is := m.byOperator(t); is && p > priority {
			return "(" + text + ")"
		} else if is {
			return text
		}
	}
	name := m.name(t.Name)
	if m.how.Quoted && (t.Name == "[]" || t.Name == "{}") {
		name = "'" + t.Name + "'"
	}
	var args []string
	for _, x := range t.Args {
		args = append(args, m.text(x, 999, false))
	}
	return name + "(" + strings.Join(args, ",") + ")"
}

// letter is the number of a compound that is a letter.
func (m model) letter(t api.Term) (*big.Int, bool) {
	if !m.how.Numbervars || !is(t, "$VAR", 1) || t.Args[0].Kind != api.Integer {
		return nil, false
	}
	n, _ := new(big.Int).SetString(t.Args[0].Num, 10)
	return n, n.Sign() >= 0
}

func (m model) inList(t api.Term) string {
	text := m.text(t.Args[0], 999, false)
	switch rest := t.Args[1]; {
	case is(rest, ".", 2):
		return text + "," + m.inList(rest)
	case rest.Kind == api.Atom && rest.Name == "[]":
		return text
	default:
		return text + "|" + m.text(rest, 999, false)
	}
}

// by is the operator by which a compound is written.
func (m model) by(t api.Term) (api.Op, bool) {
	_, letter := m.letter(t)
	switch {
	case t.Kind != api.Compound || letter || m.how.IgnoreOps || is(t, ".", 2) || is(t, "{}", 1):
	case len(t.Args) == 2:
		return m.ops.Infix(t.Name)
	case len(t.Args) == 1:
		if x, is := m.ops.Prefix(t.Name); is {
			return x, true
		}
		return m.ops.Postfix(t.Name)
	}
	return api.Op{}, false
}

func (m model) byOperator(t api.Term) (string, int, bool) {
	x, is := m.by(t)
	if !is {
		return "", 0, false
	}
	kind := ops.Word(x.Type)
	side := func(part api.Term, letter byte) string {
		most := x.Priority
		if letter == 'x' {
			most--
		}
		return m.text(part, most, true)
	}
	left := func() string {
		inner, is := m.by(t.Args[0])
		if word := ops.Word(inner.Type); is && inner.Priority == x.Priority && (word == "xfy" || word == "fy") {
			return m.text(t.Args[0], x.Priority-1, true)
		}
		return side(t.Args[0], kind[0])
	}
	switch name := m.name(t.Name); {
	case kind[0] == 'f':
		return name + " " + side(t.Args[0], kind[1]), x.Priority, true
	case len(kind) == 2:
		return left() + " " + name, x.Priority, true
	case t.Name == ",":
		return left() + "," + side(t.Args[1], kind[2]), x.Priority, true
	default:
		return left() + " " + name + " " + side(t.Args[1], kind[2]), x.Priority, true
	}
}

// P6.3: terms that are thrown, under operators that are, too, in all ways.
func TestThrownTerms(t *testing.T) {
	d := sample.Dice(71)
	names := odd()
	for range 3000 {
		few := []string{sample.Throw(&d, names...), sample.Throw(&d, names...), sample.Throw(&d, names...), "-", ".", "{}", "$VAR"}
		o := declared(&d, append(few, names...))
		for range 10 {
			x := thrown(&d, sample.Throw(&d, few, few, names), 1+d.Next(6))
			w := sample.Throw(&d, append(ways(), quoted, quoted, letters)...)
			want := model{o, w}.text(x, 1200, false)
			if got, err := writer.Write(x, o, w); got != want || err != nil {
				t.Fatalf("Write(%s, %+v) tells %q, %v; want %q", show(x), w, got, err, want)
			}
		}
	}
}

// P6.3: all small terms of some names and two operators of each type.
func TestSmallTerms(t *testing.T) {
	kinds := strings.Fields("fx fy xfx xfy yfx xf yf")
	for _, one := range kinds {
		for _, two := range kinds {
			for _, priority := range []int{399, 400, 401} {
				o := ops.New()
				add(t, o, 400, one, "p")
				add(t, o, priority, two, "q")
				for _, x := range small([]string{"p", "q"}) {
					want := model{o, quoted}.text(x, 1200, false)
					if got, err := writer.Write(x, o, quoted); got != want || err != nil {
						t.Fatalf("%s %s %d: Write(%s) tells %q, %v; want %q", one, two, priority, show(x), got, err, want)
					}
					checkBack(t, x, o, quoted)
				}
			}
		}
	}
}

// small are the terms of some names with one or two compounds in one another.
func small(names []string) []api.Term {
	inner := []api.Term{atom("a"), num("-1"), v(0)}
	for _, name := range names {
		inner = append(inner, atom(name), f(name, atom("a")), f(name, atom("a"), atom("b")), f(name, num("1")))
	}
	var out []api.Term
	for _, x := range inner {
		for _, name := range names {
			out = append(out, f(name, x), f(name, x, atom("c")), f(name, atom("c"), x))
		}
		out = append(out, list(x), f(".", atom("c"), x), f("{}", x), f("f", x), f("-", x), f("=", x, x))
	}
	return append(out, inner...)
}
