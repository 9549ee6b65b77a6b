package writer_test

import (
	"math"
	"slices"
	"testing"

	"hornbeam/api"
	"hornbeam/ops"
	"hornbeam/parser"
	"hornbeam/sample"
	"hornbeam/term"
	"hornbeam/writer"
)

// checkBack reads what is written, with each of the reader's flags.
func checkBack(t *testing.T, x api.Term, o *ops.Table, w api.WriteOptions) {
	t.Helper()
	text, err := writer.Write(x, o, w)
	if err != nil {
		t.Fatalf("Write(%s, %+v): %v", show(x), w, err)
	}
	for quotes := range 4 {
		r, err := parser.Read(text+" .", 0, o, api.Flags{Quotes: quotes})
		if err != nil {
			t.Fatalf("Write(%s, %+v) tells %q, which is not read: %s", show(x), w, text, show(err.(*api.Ball).Term))
		}
		if same, _ := term.Variant(r.Term, x); !same || r.Next != len(text)+2 {
			t.Fatalf("Write(%s, %+v) tells %q, which is read as %s", show(x), w, text, show(r.Term))
		}
	}
}

// P6.4: what is written is read as a variant, under any operators.
func TestWhatIsWrittenIsRead(t *testing.T) {
	d := sample.Dice(73)
	names := odd()
	for range 4000 {
		few := []string{sample.Throw(&d, names...), sample.Throw(&d, names...), sample.Throw(&d, names...), "-", ".", "{}"}
		o := declared(&d, append(few, names...))
		for range 10 {
			x := thrown(&d, sample.Throw(&d, few, few, names), 1+d.Next(6))
			checkBack(t, x, o, quoted)
			checkBack(t, x, o, bare)
		}
	}
}

// P6.4: floats, integers and names at the edges are read as themselves.
func TestEdgesAreRead(t *testing.T) {
	o := ops.New()
	for _, x := range []api.Term{
		float(math.MaxFloat64), float(-math.MaxFloat64), float(5e-324), float(-0x1p-1022), float(0.1), float(1e15), float(0),
		num("0"), num("-1"), v(0), v(math.MaxInt), f("f", v(7), v(0), v(7)), f("-", v(1), v(1)),
		f("-", float(1.5)), f("-", float(-1.5)), f("-", num("0")), f("+", num("0"), num("-5")),
		sample.Wide(api.MaxNodes), sample.Deep(api.MaxNodes),
	} {
		checkBack(t, x, o, quoted)
		checkBack(t, x, o, bare)
	}
	for b := range 256 {
		name := string(rune(b)) + "x"
		checkBack(t, f(name, atom(name[:len(name)-1])), o, quoted)
	}
}

// P6.4: texts differ where terms do.
func TestTextsDifferWhereTermsDo(t *testing.T) {
	d := sample.Dice(79)
	names := append(odd(), "ab", "B c", "1.0", "_0", "f(a)", "- 1", "[a]")
	for _, w := range []api.WriteOptions{quoted, bare} {
		for range 30 {
			o := declared(&d, names)
			met := map[string]api.Term{}
			for range 1000 {
				x := thrown(&d, names, 1+d.Next(3))
				text, err := writer.Write(x, o, w)
				if y, there := met[text]; err != nil || there && !equal(x, y) {
					t.Fatalf("%q is the text of %s and %s, %v", text, show(x), show(y), err)
				}
				met[text] = x
			}
		}
	}
}

// R4, R5: what is handed in stays as it is, and the same is told again.
func TestAskedAgainTheSameIsTold(t *testing.T) {
	d := sample.Dice(83)
	for range 300 {
		o := declared(&d, odd())
		before := slices.Collect(o.All())
		x := thrown(&d, odd(), 5)
		y := sample.Spare(x)
		for _, w := range ways() {
			first, err := writer.Write(y, o, w)
			again, errAgain := writer.Write(x, o.Copy(), w)
			if first != again || err != errAgain {
				t.Fatalf("Write(%s, %+v) tells %q, then %q", show(x), w, first, again)
			}
		}
		if !sample.IsSpare(y, x) || !slices.Equal(slices.Collect(o.All()), before) {
			t.Fatalf("what Write(%s) was handed is another one", show(x))
		}
	}
}
