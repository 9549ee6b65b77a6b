package fddom_test

import (
	"math/big"
	"slices"
	"strconv"
	"strings"
	"testing"

	"hornbeam/api"
	"hornbeam/fddom"
	"hornbeam/sample"
)

// Sets and integers are written in the tests as in the chapter: `inf..2\/4` are
// ranges as they are handed in, `none` no range. `max` is the greatest integer
// of MaxBits bits, `max+1` and `-max-1` have too many.

func greatest() *big.Int {
	b := new(big.Int).Lsh(big.NewInt(1), api.MaxBits)
	return b.Sub(b, big.NewInt(1))
}

// number is the integer that a text is.
func number(text string) *big.Int {
	sign, more, isNear := strings.Cut(strings.TrimSpace(text), "max")
	if !isNear {
		b, is := new(big.Int).SetString(sign, 10)
		if !is {
			panic(text)
		}
		return b
	}
	b := greatest()
	if sign == "-" {
		b.Neg(b)
	}
	if more != "" {
		n, err := strconv.Atoi(more)
		if err != nil {
			panic(text)
		}
		b.Add(b, big.NewInt(int64(n)))
	}
	return b
}

// text is an integer as number reads it.
func text(b *big.Int) string {
	for _, sign := range []string{"", "-"} {
		away := new(big.Int).Sub(b, number(sign+"max"))
		switch {
		case away.Sign() == 0:
			return sign + "max"
		case away.IsInt64() && away.Sign() > 0:
			return sign + "max+" + away.String()
		case away.IsInt64():
			return sign + "max" + away.String()
		}
	}
	return b.String()
}

func bigOf(a api.Int) *big.Int {
	out := new(big.Int)
	for _, limb := range slices.Backward(a.Mag) {
		out.Lsh(out, 32)
		out.Or(out, big.NewInt(int64(limb)))
	}
	if a.Neg {
		out.Neg(out)
	}
	return out
}

func intOf(b *big.Int) api.Int {
	out := api.Int{Neg: b.Sign() < 0}
	rest, mask := new(big.Int).Abs(b), big.NewInt(1<<32-1)
	for rest.Sign() > 0 {
		out.Mag = append(out.Mag, uint32(new(big.Int).And(rest, mask).Uint64()))
		rest.Rsh(rest, 32)
	}
	return out
}

func integer(text string) api.Int { return intOf(number(text)) }

func bound(text string) api.Bound {
	switch text = strings.TrimSpace(text); text {
	case "inf":
		return api.Bound{Inf: -1}
	case "sup":
		return api.Bound{Inf: 1}
	}
	return api.Bound{N: integer(text)}
}

func set(text string) []api.Range {
	if text == "none" {
		return nil
	}
	var out []api.Range
	for part := range strings.SplitSeq(text, `\/`) {
		lo, hi, is := strings.Cut(part, "..")
		if !is {
			hi = lo
		}
		out = append(out, api.Range{Lo: bound(lo), Hi: bound(hi)})
	}
	return out
}

// loose is the same set: what counts nothing stands where nothing need stand,
// and each list has spare room.
func loose(l []api.Range) []api.Range {
	out := make([]api.Range, 0, len(l)+2)
	for _, r := range l {
		out = append(out, api.Range{Lo: looseBound(r.Lo), Hi: looseBound(r.Hi)})
	}
	return out
}

func looseBound(b api.Bound) api.Bound {
	if b.Inf != 0 {
		return api.Bound{Inf: 9 * b.Inf, N: integer("-max-5")}
	}
	return api.Bound{N: looseInt(b.N)}
}

func looseInt(a api.Int) api.Int {
	mag := make([]uint32, len(a.Mag)+2, len(a.Mag)+5)
	copy(mag, a.Mag)
	return api.Int{Neg: a.Neg || len(a.Mag) == 0, Mag: mag}
}

// showInt is an integer that is answered; one that is not normal is shown as
// such.
func showInt(a api.Int) string {
	if size := len(a.Mag); size == 0 && a.Neg || size > 0 && a.Mag[size-1] == 0 {
		return "not normal"
	}
	return text(bigOf(a))
}

func isZero(a api.Int) bool { return !a.Neg && len(a.Mag) == 0 }

func showBound(b api.Bound) string {
	switch {
	case b.Inf == 0:
		return showInt(b.N)
	case b.Inf == -1 && isZero(b.N):
		return "inf"
	case b.Inf == 1 && isZero(b.N):
		return "sup"
	}
	return "not normal"
}

// show is a set that is answered, as it is.
func show(d []api.Range) string {
	if len(d) == 0 {
		return "none"
	}
	var parts []string
	for _, r := range d {
		lo, hi := showBound(r.Lo), showBound(r.Hi)
		if lo != hi {
			lo += ".." + hi
		}
		parts = append(parts, lo)
	}
	return strings.Join(parts, `\/`)
}

// said is what a call answers: an error alone, if there is one and nothing
// stands beside it.
func said(e api.Errno, isNothing bool, text string) string {
	switch {
	case e == api.OK:
		return text
	case isNothing:
		return "error " + strconv.Itoa(int(e))
	}
	return "error " + strconv.Itoa(int(e)) + " beside " + text
}

func saidSet(d []api.Range, e api.Errno) string { return said(e, len(d) == 0, show(d)) }

func saidInt(n api.Int, is bool, e api.Errno) string {
	switch {
	case is:
		return said(e, false, showInt(n))
	case !isZero(n):
		return "false beside " + showInt(n)
	}
	return said(e, true, "false")
}

func saidEnds(lo, hi api.Bound, is bool, e api.Errno) string {
	both := showBound(lo) + " " + showBound(hi)
	switch {
	case is:
		return said(e, false, both)
	case both != "0 0":
		return "false beside " + both
	}
	return said(e, true, "false")
}

// What said tells of errors.
const (
	tooLong = "error 10"
	tooMany = "error 90"
)

// told is what a call answers; those that take less do not look at b, or n.
func told(name string, a, b []api.Range, n api.Int) string {
	switch name {
	case "Norm":
		return saidSet(fddom.Norm(a))
	case "Has":
		is, e := fddom.Has(a, n)
		return said(e, !is, strconv.FormatBool(is))
	case "Same":
		is, e := fddom.Same(a, b)
		return said(e, !is, strconv.FormatBool(is))
	case "Inter":
		return saidSet(fddom.Inter(a, b))
	case "Union":
		return saidSet(fddom.Union(a, b))
	case "Minus":
		return saidSet(fddom.Minus(a, b))
	case "Ends":
		return saidEnds(fddom.Ends(a))
	case "Size":
		return saidInt(fddom.Size(a))
	case "Next":
		return saidInt(fddom.Next(a, n))
	case "Shift":
		return saidSet(fddom.Shift(a, n))
	case "Scale":
		return saidSet(fddom.Scale(a, n))
	case "Parts":
		return saidSet(fddom.Parts(a, n))
	case "Term":
		t, e := fddom.Term(a)
		return said(e, sample.IsNone(t), sample.Show(t))
	}
	panic(name)
}

// The calls by what they take.

func ofOne() []string { return []string{"Norm", "Ends", "Size", "Term"} }

func ofNumber() []string { return []string{"Has", "Next", "Shift", "Scale", "Parts"} }

func ofTwo() []string { return []string{"Same", "Inter", "Union", "Minus"} }

// ofAll goes through all calls, but those of one set alone once for each.
func ofAll() []string { return slices.Concat(ofOne(), ofNumber(), ofTwo()) }

// check checks a call of sets and a number that are told as text.
func check(t *testing.T, name, a, b, n, want string) {
	t.Helper()
	checkOf(t, name, set(a), set(b), integer(n), want)
}

func checkOf(t *testing.T, name string, a, b []api.Range, n api.Int, want string) {
	t.Helper()
	if got := told(name, a, b, n); got != want {
		t.Errorf("%s of %s, %s, %s: %s; want %s", name, short(a), short(b), showInt(n), sample.Short(got), sample.Short(want))
	}
}

func short(l []api.Range) string { return sample.Short(show(l)) }

// rows are so many ranges of wide integers each, each range a step above the
// one ahead of it.
func rows(many, first, step, wide int) []api.Range {
	var out []api.Range
	for i := range many {
		lo := int64(first + i*step)
		out = append(out, api.Range{Lo: api.Bound{N: intOf(big.NewInt(lo))}, Hi: api.Bound{N: intOf(big.NewInt(lo + int64(wide) - 1))}})
	}
	return out
}

// apart are so many integers as a set, each step above the one ahead of it.
func apart(many, first, step int) []api.Range { return rows(many, first, step, 1) }
