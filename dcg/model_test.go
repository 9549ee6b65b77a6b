package dcg_test

import (
	"strconv"
	"strings"
	"testing"

	"hornbeam/api"
	"hornbeam/sample"
	"hornbeam/tree"
)

// model puts goals together as text, as sample.Show shows them, by the chapter's
// words.
type model struct {
	next  int
	first string // the first ball, if there is one
}

func (m *model) fresh() string {
	m.next++
	return "_" + strconv.Itoa(m.next-1)
}

func (m *model) thrown(what string) string {
	if m.first == "" {
		m.first = what
	}
	return ""
}

func textOf(name string, parts ...string) string {
	return strconv.Quote(name) + "(" + strings.Join(parts, ",") + ")"
}

func (m *model) body(t api.Term, from, to string) string {
	nothing := textOf("=", from, to)
	switch sample.Place(t) {
	case "a variable":
		return textOf("phrase", show(t), from, to)
	case "a number":
		return m.thrown(wrongType("callable", t))
	case ",/2", "->/2":
		between := m.fresh()
		left := m.body(t.Args[0], from, between)
		right := m.body(t.Args[1], between, to)
		return textOf(t.Name, left, right)
	case ";/2", "|/2":
		left := m.body(t.Args[0], from, to)
		right := m.body(t.Args[1], from, to)
		return textOf(";", left, right)
	case `\+/1`:
		behind := m.fresh()
		return textOf(",", textOf(`\+`, m.body(t.Args[0], from, behind)), nothing)
	case "{}/0":
		return textOf(",", show(atom("true")), nothing)
	case "{}/1":
		return textOf(",", show(t.Args[0]), nothing)
	case "!/0":
		return textOf(",", show(t), nothing)
	case "[]/0", "./2":
		return textOf("=", from, m.list(t, to))
	}
	return m.nonterminal(t, from, to)
}

func (m *model) nonterminal(t api.Term, from, to string) string {
	if len(t.Args) > 62 {
		return m.thrown(manyArguments)
	}
	var parts []string
	for _, part := range t.Args {
		parts = append(parts, show(part))
	}
	return textOf(t.Name, append(parts, from, to)...)
}

func isList(t api.Term) bool {
	return sample.Place(t) == "[]/0" || sample.Place(t) == "./2" && isList(t.Args[1])
}

func (m *model) list(t api.Term, end string) string {
	if !isList(t) {
		return m.thrown(wrongType("list", t))
	}
	if sample.Place(t) == "[]/0" {
		return end
	}
	return textOf(".", show(t.Args[0]), m.list(t.Args[1], end))
}

func (m *model) rule(t api.Term, greatest int) string {
	if sample.Place(t) != "-->/2" {
		return m.thrown(wrongType("dcg_rule", t))
	}
	m.next = greatest + 1
	s0, s := m.fresh(), m.fresh()
	h, b := t.Args[0], t.Args[1]
	var p []api.Term
	if sample.Place(h) == ",/2" {
		h, p = h.Args[0], h.Args[1:]
	}
	switch sample.Place(h) {
	case "a variable":
		return m.thrown(instantiation)
	case "a number":
		return m.thrown(wrongType("callable", h))
	}
	if len(p) == 0 {
		head := m.nonterminal(h, s0, s)
		return textOf(":-", head, m.body(b, s0, s))
	}
	between := m.fresh()
	l := m.list(p[0], between)
	head := m.nonterminal(h, s0, s)
	goal := m.body(b, s0, between)
	return textOf(":-", head, textOf(",", goal, textOf("=", s, l)))
}

// answer is what there is, a ball, or one of too many nodes.
func (m *model) answer(text string) string {
	switch {
	case m.first != "":
		return m.first
	case nodes(text) > 4000:
		return manyNodes
	}
	return text
}

// nodes is how many nodes a term has that is shown so. No name has quotes.
func nodes(text string) int {
	n, quoted := 1, false
	for _, char := range text {
		switch {
		case char == '"':
			quoted = !quoted
		case !quoted && (char == '(' || char == ','):
			n++
		}
	}
	return n
}

// modelBody is what the chapter asks of Body: the goal, and the number of the
// next variable; or a ball, and -1.
func modelBody(t, from, to api.Term, next int) (string, int) {
	m := model{next: next}
	goal := m.body(t, show(from), show(to))
	if answer := m.answer(goal); answer != goal || m.first != "" {
		return answer, -1
	}
	return goal, m.next
}

func wantedBody(t, from, to api.Term, next int) string {
	goal, behind := modelBody(t, from, to, next)
	if behind < 0 {
		return goal
	}
	return withNext(goal, behind)
}

func modelRule(t api.Term) string {
	greatest := -1
	eachVariable(t, func(n int) { greatest = max(greatest, n) })
	if greatest > mostVar {
		return failure(api.ErrArg)
	}
	m := model{}
	return m.answer(m.rule(t, greatest))
}

func eachVariable(t api.Term, tell func(n int)) {
	if t.Kind == api.Var {
		tell(t.Var)
	}
	for _, part := range t.Args {
		eachVariable(part, tell)
	}
}

// thrownLeaf is what holds no other body; few are none.
func thrownLeaf(d *sample.Dice) api.Term {
	switch d.Next(40) {
	case 0:
		return sample.Throw(d, tree.Int(3), tree.Int(-1), sample.Float(2.5))
	case 1:
		return read(sample.Throw(d, "[x|y]", "[x|_3]", "[_1, y|3]"))
	case 2:
		return wide(sample.Throw(d, "f", "call", ",", "{}", "->"), 60+d.Next(5))
	case 3, 4, 5, 6:
		return v(d.Next(6))
	case 7, 8, 9, 10, 11:
		return read(sample.Throw(d, "{}", "{_1, p(_2)}", "{[x|y]}", "{3}", "{_4}"))
	case 12, 13, 14, 15, 16:
		return read(sample.Throw(d, "[]", "[a]", "[_2, b, 3]", "[(a, b), [x|y]]", `"ab"`))
	case 17, 18, 19:
		return read(sample.Throw(d, "call", "call(a)", "call(_1, 2)", "call([x|y], (a, b))"))
	case 20, 21, 22:
		return read(sample.Throw(d, "','(a)", "';'(a, b, c)", `\+(a, b)`, "{}(a, b)", "'.'(a)", "[](a)", "','", "'.'", "a --> b"))
	case 23, 24, 25:
		return atom("!")
	}
	return read(sample.Throw(d, "a", "b", "f(_1)", "g(_2, [a|_3])", "phrase(a, _4)"))
}

func thrownBody(d *sample.Dice, depth int) api.Term {
	if depth == 0 || d.Next(5) == 0 {
		return thrownLeaf(d)
	}
	if d.Next(5) == 0 {
		return f(`\+`, thrownBody(d, depth-1))
	}
	name := sample.Throw(d, ",", ",", ",", ";", "|", "->")
	return f(name, thrownBody(d, depth-1), thrownBody(d, depth-1))
}

func thrownHead(d *sample.Dice) api.Term {
	switch d.Next(15) {
	case 0:
		return sample.Throw(d, v(2), tree.Int(1), sample.Float(1.5))
	case 1, 2:
		return wide("f", 60+d.Next(5))
	}
	return read(sample.Throw(d, "a", "a(_1)", "g(_7, [x|_2])", "{}", "[a]", "!", "(a ; b)"))
}

// thrownRule is mostly a rule.
func thrownRule(d *sample.Dice) api.Term {
	head := thrownHead(d)
	switch d.Next(16) {
	case 0:
		head = f(",", head, read(sample.Throw(d, "x", "_3", "[x|y]", "[x|_9]", "1", "{}")))
	case 1, 2, 3, 4, 5, 6, 7:
		head = f(",", head, read(sample.Throw(d, "[]", "[x]", "[_3, y]", "[[a|b], 1]")))
	}
	name := "-->"
	if d.Next(12) == 0 {
		name = ":-"
	}
	return f(name, head, thrownBody(d, d.Next(4)))
}

// P10.1.
func TestBodyOfThrownTerms(t *testing.T) {
	d := sample.Dice(101)
	goals := 0
	for range 5000 {
		x := thrownBody(&d, d.Next(6))
		from := sample.Throw(&d, v(0), v(7), read("[a, b]"), read("[_2|_11]"), atom("[]"), sized(1+d.Next(400)))
		to := sample.Throw(&d, from, v(1), atom("[]"), read("f(_3)"), sized(1+d.Next(400)))
		next := sample.Throw(&d, 0, 2, 9, 12, mostVar)
		want := wantedBody(x, from, to, next)
		checkBody(t, x, from, to, next, want)
		if !strings.HasPrefix(want, "thrown") {
			goals++
		}
	}
	if goals < 2000 || goals > 4500 {
		t.Errorf("%d goals were made", goals)
	}
}

// P10.2.
func TestThrownRules(t *testing.T) {
	d := sample.Dice(102)
	clauses := 0
	for range 5000 {
		x := thrownRule(&d)
		want := modelRule(x)
		checkRule(t, x, want)
		if !strings.HasPrefix(want, "thrown") {
			clauses++
		}
	}
	if clauses < 2000 || clauses > 4500 {
		t.Errorf("%d clauses were made", clauses)
	}
}
