package writer_test

import (
	"strings"
	"testing"

	"hornbeam/api"
	"hornbeam/ops"
	"hornbeam/sample"
	"hornbeam/tree"
	"hornbeam/writer"
)

// Short names for what makes terms and looks at them.
var (
	atom, num, v, f    = tree.Atom, tree.Digits, tree.Var, tree.Of
	float, list        = sample.Float, sample.List
	equal, show, short = sample.Equal, sample.Show, sample.Short
)

// Options, by what they ask for.
var (
	quoted  = api.WriteOptions{Quoted: true}
	bare    = api.WriteOptions{Quoted: true, IgnoreOps: true}
	letters = api.WriteOptions{Quoted: true, Numbervars: true}
	plain   = api.WriteOptions{}
)

// ways are all options.
func ways() []api.WriteOptions {
	var out []api.WriteOptions
	for i := range 8 {
		out = append(out, api.WriteOptions{Quoted: i&1 > 0, IgnoreOps: i&2 > 0, Numbervars: i&4 > 0})
	}
	return out
}

func check(t *testing.T, x api.Term, o *ops.Table, w api.WriteOptions, want string) {
	t.Helper()
	if got, err := writer.Write(x, o, w); got != want || err != nil {
		t.Errorf("Write(%s, %+v) tells %q, %v; want %q", short(show(x)), w, short(got), err, short(want))
	}
}

func checkWrong(t *testing.T, what string, x api.Term, o *ops.Table, w api.WriteOptions, want api.Errno) {
	t.Helper()
	if got, err := writer.Write(x, o, w); got != "" || err != want {
		t.Errorf("Write of %s, %+v: %q, %v; want %v and no text", what, w, short(got), err, want)
	}
}

// add makes a name an operator, which it must be able to be.
func add(t *testing.T, o *ops.Table, priority int, kind, name string) {
	t.Helper()
	if e := o.Add(priority, ops.Type(kind), name); e != api.OK {
		t.Fatalf("Add(%d, %s, %q): %v", priority, kind, name, e)
	}
}

// odd are names that need care, of operators and others.
func odd() []string {
	return []string{"a", "b", "-", "+", "*", "^", "=", ":-", "\\+", ";", ",", "|", "!", "[]", "{}", ".", "..", "=.", "$VAR", "", " ", "X", "_", "_1", "1", "a b", "it's", "\\", "\n", "/*", "/**/", "//*", "%", "(", "]", "\u00e9", "\x00", "\x7f", "both", "e5", "x1", "\"", "`", "'", "-1"}
}

// thrown is a term of some names, and of numbers and variables.
func thrown(d *sample.Dice, names []string, depth int) api.Term {
	kind := d.Next(12)
	if depth == 0 {
		kind = d.Next(6)
	}
	one := func() api.Term { return thrown(d, names, d.Next(depth)) }
	switch kind {
	case 0:
		return v(d.Next(12))
	case 1:
		return sample.Throw(d, num("0"), num("1"), num("-1"), num("26"), num("-27"), num("12345678901234567890"))
	case 2:
		return sample.Throw(d, float(0), float(1), float(-2.5), float(1e15), float(-1e-5), float(0.1))
	case 3, 4, 5:
		return atom(sample.Throw(d, names...))
	case 6, 7, 8:
		return f(sample.Throw(d, names...), one(), one())
	case 9, 10:
		return f(sample.Throw(d, names...), one())
	}
	return f(sample.Throw(d, append([]string{".", ".", "{}", "$VAR"}, names...)...), one(), one(), one())
}

// declared is a table with operators that are thrown, and those of their names
// that may be ones.
func declared(d *sample.Dice, names []string) *ops.Table {
	o := ops.New()
	kinds := strings.Fields("fx fy fy xfx xfy xfy yfx yfx xf yf")
	priorities := []int{0, 1, 200, 200, 400, 400, 500, 500, 700, 999, 1000, 1001, 1100, 1200}
	for range d.Next(25) {
		o.Add(sample.Throw(d, priorities...), ops.Type(sample.Throw(d, kinds...)), sample.Throw(d, names...))
	}
	return o
}
