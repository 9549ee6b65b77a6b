package fddom_test

import (
	"math/big"
	"slices"
	"testing"

	"hornbeam/api"
	"hornbeam/bigint"
	"hornbeam/fddom"
	"hornbeam/sample"
)

// must makes a call that may not be refused one that answers a set alone.
func must(t *testing.T) func(d []api.Range, e api.Errno) []api.Range {
	return func(d []api.Range, e api.Errno) []api.Range {
		t.Helper()
		if e != api.OK {
			t.Fatal(e)
		}
		return d
	}
}

// alike checks that two sets that are answered are the same.
func alike(t *testing.T, what string, got, want []api.Range) {
	t.Helper()
	if show(got) != show(want) {
		t.Errorf("%s: %s and %s", what, short(got), short(want))
	}
}

// P9.6.
func TestLawsOfTwoSets(t *testing.T) {
	get, d := must(t), sample.Dice(96)
	for range 3000 {
		a, b, c := thrown(&d), thrown(&d), thrown(&d)
		alike(t, "Inter turned round", get(fddom.Inter(a, b)), get(fddom.Inter(b, a)))
		alike(t, "Union turned round", get(fddom.Union(a, b)), get(fddom.Union(b, a)))
		alike(t, "Inter shared out", get(fddom.Inter(a, get(fddom.Union(b, c)))), get(fddom.Union(get(fddom.Inter(a, b)), get(fddom.Inter(a, c)))))
		alike(t, "Union shared out", get(fddom.Union(a, get(fddom.Inter(b, c)))), get(fddom.Inter(get(fddom.Union(a, b)), get(fddom.Union(a, c)))))
		alike(t, "Minus of Minus", get(fddom.Minus(a, get(fddom.Minus(a, b)))), get(fddom.Inter(a, b)))
		alike(t, "Inter of itself", get(fddom.Inter(a, a)), get(fddom.Norm(a)))
		alike(t, "Union of itself", get(fddom.Union(a, a)), get(fddom.Norm(a)))
		alike(t, "what is left of all, twice", get(fddom.Minus(fddom.All(), get(fddom.Minus(fddom.All(), a)))), get(fddom.Norm(a)))
	}
}

// P9.6.
func TestLawsOfOneSet(t *testing.T) {
	get, d := must(t), sample.Dice(97)
	for range 3000 {
		a := thrown(&d)
		n := intOf(big.NewInt(int64(d.Next(41) - 20)))
		normal := get(fddom.Norm(a))
		alike(t, "Norm of Norm", get(fddom.Norm(normal)), normal)
		alike(t, "Shift there and back", get(fddom.Shift(get(fddom.Shift(a, n)), bigint.Neg(n))), normal)
		if bigint.Sign(n) != 0 {
			alike(t, "Parts of Scale", get(fddom.Parts(get(fddom.Scale(a, n)), n)), normal)
		}
		x, e := fddom.Term(a)
		if e != api.OK {
			t.Fatal(e)
		}
		back, err := fddom.Read(x)
		if err != nil {
			t.Fatal(err)
		}
		alike(t, "Read of Term", back, normal)
	}
}

// P9.6: Next goes through all of a set, rising: as many as Size says, from the
// one of Ends to the other.
func TestNextGoesThroughAll(t *testing.T) {
	d := sample.Dice(98)
	for range 1000 {
		a := thrown(&d)
		size, is, e := fddom.Size(a)
		if !is || e != api.OK {
			continue
		}
		lo, hi, some, _ := fddom.Ends(a)
		var met []string
		for n, is, _ := fddom.Next(a, integer("-1000")); is; n, is, _ = fddom.Next(a, n) {
			met = append(met, showInt(n))
			if in, _ := fddom.Has(a, n); !in {
				t.Errorf("%s is not in %s", showInt(n), short(a))
			}
		}
		if many, _ := bigint.To(size); len(met) != many || some != (many > 0) {
			t.Errorf("%d of %s are met", len(met), short(a))
		}
		if some && (met[0] != showBound(lo) || met[len(met)-1] != showBound(hi)) {
			t.Errorf("%v of %s", met, short(a))
		}
	}
}

// The marks that stand in the spare room of what is handed in.
const (
	markLimb = 0xabad1dea
	markInf  = 77
)

// spare is a set whose every list has spare room with marks in it.
func spare(l []api.Range) []api.Range {
	out := make([]api.Range, len(l), len(l)+3)
	for i, r := range l {
		out[i] = api.Range{Lo: api.Bound{Inf: r.Lo.Inf, N: spareInt(r.Lo.N)}, Hi: api.Bound{Inf: r.Hi.Inf, N: spareInt(r.Hi.N)}}
	}
	for i := len(out); i < cap(out); i++ {
		out[:cap(out)][i] = api.Range{Lo: api.Bound{Inf: markInf}}
	}
	return out
}

func spareInt(a api.Int) api.Int {
	mag := make([]uint32, len(a.Mag), len(a.Mag)+3)
	copy(mag, a.Mag)
	for i := len(mag); i < cap(mag); i++ {
		mag[:cap(mag)][i] = markLimb
	}
	return api.Int{Neg: a.Neg, Mag: mag}
}

func isSpareInt(got, a api.Int) bool {
	return got.Neg == a.Neg && slices.Equal(got.Mag, a.Mag) && !slices.ContainsFunc(got.Mag[len(got.Mag):cap(got.Mag)], func(limb uint32) bool { return limb != markLimb })
}

// isSpare tells whether got is spare of l still.
func isSpare(got, l []api.Range) bool {
	same := func(x, y api.Bound) bool { return x.Inf == y.Inf && isSpareInt(x.N, y.N) }
	if !slices.EqualFunc(got, l, func(r, s api.Range) bool { return same(r.Lo, s.Lo) && same(r.Hi, s.Hi) }) {
		return false
	}
	return !slices.ContainsFunc(got[len(got):cap(got)], func(r api.Range) bool {
		return r.Lo.Inf != markInf || r.Hi.Inf != 0 || !isZero(r.Lo.N) || !isZero(r.Hi.N)
	})
}

// lists are the lists of limbs of a set.
func lists(d []api.Range) [][]uint32 {
	var out [][]uint32
	for _, r := range d {
		out = append(out, r.Lo.N.Mag, r.Hi.N.Mag)
	}
	return out
}

// checkApart checks that no two lists of an answer share memory, and spoils
// them all.
func checkApart(t *testing.T, what string, l [][]uint32) {
	t.Helper()
	for i, limbs := range l {
		for j := range limbs[:cap(limbs)] {
			limbs[:cap(limbs)][j] = uint32(1000 + i)
		}
	}
	for i, limbs := range l {
		if slices.ContainsFunc(limbs[:cap(limbs)], func(limb uint32) bool { return limb != uint32(1000+i) }) {
			t.Errorf("%s: two lists of an answer share memory", what)
		}
	}
}

// spoilt makes a call, spoils all that it answers, and tells what stood there.
func spoilt(t *testing.T, name string, a, b []api.Range, n api.Int) string {
	t.Helper()
	spoil := func(d []api.Range, e api.Errno) string {
		out := saidSet(d, e)
		checkApart(t, name, lists(d))
		for i := range d[:cap(d)] {
			d[:cap(d)][i] = api.Range{Hi: api.Bound{Inf: 5}}
		}
		return out
	}
	switch name {
	case "Norm":
		return spoil(fddom.Norm(a))
	case "Of":
		return spoil(fddom.Of(n, n))
	case "All":
		return spoil(fddom.All(), api.OK)
	case "Inter":
		return spoil(fddom.Inter(a, b))
	case "Union":
		return spoil(fddom.Union(a, b))
	case "Minus":
		return spoil(fddom.Minus(a, b))
	case "Shift":
		return spoil(fddom.Shift(a, n))
	case "Scale":
		return spoil(fddom.Scale(a, n))
	case "Parts":
		return spoil(fddom.Parts(a, n))
	case "Ends":
		lo, hi, is, e := fddom.Ends(a)
		out := saidEnds(lo, hi, is, e)
		checkApart(t, name, [][]uint32{lo.N.Mag, hi.N.Mag})
		return out
	case "Size":
		size, is, e := fddom.Size(a)
		out := saidInt(size, is, e)
		checkApart(t, name, [][]uint32{size.Mag})
		return out
	case "Next":
		next, is, e := fddom.Next(a, n)
		out := saidInt(next, is, e)
		checkApart(t, name, [][]uint32{next.Mag})
		return out
	}
	return told(name, a, b, n)
}

// R4: what is handed in stays, and what is answered is new memory; R5: the
// same call answers the same.
func TestMemory(t *testing.T) {
	one := intOf(big.NewInt(1))
	for _, a := range pool() {
		for _, b := range [][]api.Range{set("none"), set("inf..sup"), set(`4\/inf..2\/7..7`), a} {
			for _, n := range []api.Int{{}, one, integer("-1"), integer("5"), looseInt(integer("-3"))} {
				for _, name := range append(ofAll(), "Of", "All") {
					inA, inB, inN := spare(a), spare(b), spareInt(n)
					first := spoilt(t, name, inA, inB, inN)
					if !isSpare(inA, a) || !isSpare(inB, b) || !isSpareInt(inN, n) {
						t.Errorf("%s of %s, %s, %s changes or shares what is handed in", name, short(a), short(b), showInt(n))
					}
					if again := spoilt(t, name, inA, inB, inN); again != first {
						t.Errorf("%s of %s, %s, %s: %s, then %s", name, short(a), short(b), showInt(n), first, again)
					}
				}
			}
		}
	}
}

// R4: so it is of terms.
func TestMemoryOfTerms(t *testing.T) {
	for _, text := range []string{"5", "..(1, 3)", `\/(\/(1, 3), ..(5, sup))`, "..(3, 1)", "a", "..(a, f(b, c))", `\/(1, f(_))`, "_"} {
		x := sample.Read(text)
		in := sample.Spare(x)
		d, err := fddom.Read(in)
		want := saidRead(d, err)
		checkApart(t, "Read", lists(d))
		if ball, is := err.(*api.Ball); is {
			sample.Spoil(ball.Term)
		}
		if !sample.IsSpare(in, x) || saidRead(fddom.Read(in)) != want {
			t.Errorf("Read(%s) changes or shares what is handed in", text)
		}
	}
	a := set(`1..3\/5\/7..sup`)
	in := spare(a)
	x, _ := fddom.Term(in)
	want := sample.Show(x)
	sample.Spoil(x)
	if again, _ := fddom.Term(in); sample.Show(again) != want || !isSpare(in, a) {
		t.Errorf("Term shares what it tells")
	}
}
