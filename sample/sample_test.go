package sample_test

import (
	"testing"

	"hornbeam/api"
	"hornbeam/sample"
	"hornbeam/term"
	"hornbeam/tree"
)

// The mistakes are those that they are said to be.
func TestMistakes(t *testing.T) {
	met := map[api.Errno]bool{}
	for _, m := range sample.Mistakes() {
		if e := term.Check(m.Term); e != m.Errno {
			t.Errorf("%v, not %v", e, m.Errno)
		}
		met[m.Errno] = true
	}
	if len(met) != 5 {
		t.Errorf("there are mistakes of %d errors", len(met))
	}
}

// Terms of so many nodes have as many, and may be.
func TestSizes(t *testing.T) {
	for _, nodes := range []int{2, 3, 64, 65, 66, 1000, 4000} {
		for _, x := range []api.Term{sample.Wide(nodes), sample.Deep(nodes)} {
			if n := term.Nodes(x); n != nodes || term.Check(x) != api.OK {
				t.Errorf("%d nodes, not %d", n, nodes)
			}
		}
	}
}

// What is done to spare room, or to a part, is seen.
func TestSpare(t *testing.T) {
	plain := tree.Of("f", tree.Atom("a"), sample.List(tree.Int(1), sample.Float(2)))
	if x := sample.Spare(plain); !sample.IsSpare(x, plain) || !sample.Equal(x, plain) {
		t.Errorf("%s is another one", sample.Show(x))
	}
	count := 0
	sample.Places(sample.Spare(plain).Args, func(*api.Term) { count++ })
	for i := range count {
		x := sample.Spare(plain)
		at := 0
		sample.Places(x.Args, func(p *api.Term) {
			if at == i {
				p.Name += "x"
			}
			at++
		})
		if sample.IsSpare(x, plain) {
			t.Errorf("a change of part %d is not seen", i)
		}
	}
	x := sample.Spare(plain)
	sample.Spoil(x)
	if sample.IsSpare(x, plain) || sample.Show(x) != `"f"("spoilt","spoilt")` {
		t.Errorf("%s is not spoilt", sample.Show(x))
	}
}
