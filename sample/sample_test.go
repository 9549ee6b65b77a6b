package sample_test

import (
	"errors"
	"testing"

	"hornbeam/api"
	"hornbeam/sample"
	"hornbeam/term"
	"hornbeam/tree"
)

// The mistakes are those that they are said to be.
func TestMistakes(t *testing.T) {
	met := map[api.Errno]bool{}
	for _, m := range sample.Mistakes() {
		if e := term.Check(m.Term); e != m.Errno {
			t.Errorf("%v, not %v", e, m.Errno)
		}
		met[m.Errno] = true
	}
	if len(met) != 5 {
		t.Errorf("there are mistakes of %d errors", len(met))
	}
}

// Terms of so many nodes have as many, and may be.
func TestSizes(t *testing.T) {
	for _, nodes := range []int{1, 2, 3, 64, 65, 66, 1000, 4000} {
		for _, x := range []api.Term{sample.Wide(nodes), sample.Deep(nodes)} {
			if n := term.Nodes(x); n != nodes || term.Check(x) != api.OK {
				t.Errorf("%d nodes, not %d", n, nodes)
			}
		}
	}
}

// An error is told with what stands beside it.
func TestSaid(t *testing.T) {
	a := tree.Atom("a")
	for _, row := range []struct {
		err       error
		isNothing bool
		want      string
	}{
		{nil, true, "text"},
		{nil, false, "text"},
		{api.ErrArg, true, "error 1"},
		{api.ErrArg, false, "error 1 beside text"},
		{&api.Ball{Term: a}, true, `thrown "a"`},
		{&api.Ball{Term: a}, false, `thrown "a" beside text`},
		{errors.New("text"), true, "an error of another type"},
	} {
		if got := sample.Said("text", row.isNothing, row.err); got != row.want {
			t.Errorf("%s; want %s", got, row.want)
		}
	}
	if got := sample.WrongType("list", a); got != `thrown "type_error"("list","a")` {
		t.Errorf("%s", got)
	}
}

func TestPlace(t *testing.T) {
	for text, want := range map[string]string{"_3": "a variable", "-3": "a number", "2.5": "a number", "a": "a/0", "f(a, b)": "f/2", "'a number'": "a number/0"} {
		if got := sample.Place(sample.Read(text)); got != want {
			t.Errorf("%s is %s; want %s", text, got, want)
		}
	}
}

// A text is read by the operators, with the numbers that its variables say.
func TestRead(t *testing.T) {
	for text, want := range map[string]string{
		"f(X, _, Y, X)":      `"f"(_0,_1,_2,_0)`,
		"g(_7, _0, _7)":      `"g"(_7,_0,_7)`,
		"a --> [1.5], \\+ b": `"-->"("a",","("."(1.5f,"[]"),"\\+"("b")))`,
	} {
		if got := sample.Show(sample.Read(text)); got != want {
			t.Errorf("%s is read as %s; want %s", text, got, want)
		}
	}
	defer func() {
		if recover() != "a b" {
			t.Errorf("a text that is no term is read")
		}
	}()
	sample.Read("a b")
}

// What is done to spare room, or to a part, is seen.
func TestSpare(t *testing.T) {
	plain := tree.Of("f", tree.Atom("a"), sample.List(tree.Int(1), sample.Float(2)))
	if x := sample.Spare(plain); !sample.IsSpare(x, plain) || !sample.Equal(x, plain) {
		t.Errorf("%s is another one", sample.Show(x))
	}
	count := 0
	sample.Places(sample.Spare(plain).Args, func(*api.Term) { count++ })
	for i := range count {
		x := sample.Spare(plain)
		at := 0
		sample.Places(x.Args, func(p *api.Term) {
			if at == i {
				p.Name += "x"
			}
			at++
		})
		if sample.IsSpare(x, plain) {
			t.Errorf("a change of part %d is not seen", i)
		}
	}
	x := sample.Spare(plain)
	sample.Spoil(x)
	if sample.IsSpare(x, plain) || sample.Show(x) != `"f"("spoilt","spoilt")` {
		t.Errorf("%s is not spoilt", sample.Show(x))
	}
}
