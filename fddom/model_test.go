package fddom_test

import (
	"math/big"
	"slices"
	"strconv"
	"testing"

	"hornbeam/api"
	"hornbeam/sample"
	"hornbeam/tree"
)

// members is a set as the chapter has it: whether an integer is in it.
type members func(x *big.Int) bool

// span is all integers from one to another; nil is an end that is not there.
type span struct{ lo, hi *big.Int }

func (s span) has(x *big.Int) bool {
	return (s.lo == nil || s.lo.Cmp(x) <= 0) && (s.hi == nil || s.hi.Cmp(x) >= 0)
}

func anyHas(l []span) members {
	return func(x *big.Int) bool {
		return slices.ContainsFunc(l, func(s span) bool { return s.has(x) })
	}
}

func membersOf(l []api.Range) members {
	var out []span
	for _, r := range l {
		var s span
		if r.Lo.Inf > 0 || r.Hi.Inf < 0 {
			continue
		}
		if r.Lo.Inf == 0 {
			s.lo = bigOf(r.Lo.N)
		}
		if r.Hi.Inf == 0 {
			s.hi = bigOf(r.Hi.N)
		}
		out = append(out, s)
	}
	return anyHas(out)
}

// counted are the integers that count in some sets.
func counted(sets ...[]api.Range) []*big.Int {
	var out []*big.Int
	for _, l := range sets {
		for _, r := range l {
			for _, b := range []api.Bound{r.Lo, r.Hi} {
				if b.Inf == 0 {
					out = append(out, bigOf(b.N))
				}
			}
		}
	}
	return out
}

// spans looks through a set that turns near some integers alone: it goes
// through these and what stands beside them.
func spans(in members, near []*big.Int) []span {
	var points []*big.Int
	for _, b := range append(near, new(big.Int)) {
		for away := range 5 {
			points = append(points, new(big.Int).Add(b, big.NewInt(int64(away-2))))
		}
	}
	slices.SortFunc(points, (*big.Int).Cmp)
	points = slices.CompactFunc(points, func(a, b *big.Int) bool { return a.Cmp(b) == 0 })
	var out []span
	was := in(points[0])
	if was {
		out = append(out, span{})
	}
	for i, x := range points[1:] {
		now, last := in(x), points[i]
		if now != was && new(big.Int).Sub(x, last).Cmp(big.NewInt(1)) != 0 {
			panic("it turns where nobody looks")
		}
		switch {
		case now && !was:
			out = append(out, span{lo: x})
		case was && !now:
			out[len(out)-1].hi = last
		}
		was = now
	}
	return out
}

func spansOf(l []api.Range) []span { return spans(membersOf(l), counted(l)) }

// answered is a set as it is answered, or the error that it is too great.
func answered(l []span) string {
	var out []api.Range
	for _, s := range l {
		r := api.Range{Lo: api.Bound{Inf: -1}, Hi: api.Bound{Inf: 1}}
		if s.lo != nil {
			r.Lo = api.Bound{N: intOf(s.lo)}
		}
		if s.hi != nil {
			r.Hi = api.Bound{N: intOf(s.hi)}
		}
		out = append(out, r)
	}
	if e := refused(out); e != "" {
		return e
	}
	return show(out)
}

func answeredInt(b *big.Int) string {
	if b.BitLen() > api.MaxBits {
		return tooLong
	}
	return text(b)
}

// refused is the error of sets that may not be handed in, or answered.
func refused(sets ...[]api.Range) string {
	for _, b := range counted(sets...) {
		if b.BitLen() > api.MaxBits {
			return tooLong
		}
	}
	for _, l := range sets {
		if len(l) > api.MaxRanges && len(spansOf(l)) > api.MaxRanges {
			return tooMany
		}
	}
	return ""
}

// wanted is what the chapter asks of a call.
func wanted(name string, a, b []api.Range, n api.Int) string {
	switch {
	case slices.Contains(ofOne(), name):
		if e := refused(a); e != "" {
			return e
		}
		return wantedOfOne(name, a)
	case slices.Contains(ofTwo(), name):
		if e := refused(a, b); e != "" {
			return e
		}
		return wantedOfTwo(name, a, b)
	}
	if bigOf(n).BitLen() > api.MaxBits {
		return tooLong
	}
	if e := refused(a); e != "" {
		return e
	}
	return wantedOfNumber(name, a, bigOf(n))
}

func wantedOfOne(name string, a []api.Range) string {
	l := spansOf(a)
	switch name {
	case "Ends":
		if len(l) == 0 {
			return "false"
		}
		lo, hi := "inf", "sup"
		if b := l[0].lo; b != nil {
			lo = text(b)
		}
		if b := l[len(l)-1].hi; b != nil {
			hi = text(b)
		}
		return lo + " " + hi
	case "Size":
		size := new(big.Int)
		for _, s := range l {
			if s.lo == nil || s.hi == nil {
				return "false"
			}
			size.Add(size, new(big.Int).Sub(s.hi, s.lo)).Add(size, big.NewInt(1))
		}
		return answeredInt(size)
	case "Term":
		return sample.Show(wantedTerm(l))
	}
	return answered(l)
}

func wantedTerm(l []span) api.Term {
	if len(l) == 0 {
		return tree.Of("..", tree.Int(1), tree.Int(0))
	}
	last := len(l) - 1
	lo, hi := tree.Atom("inf"), tree.Atom("sup")
	if b := l[last].lo; b != nil {
		lo = tree.Digits(b.String())
	}
	if b := l[last].hi; b != nil {
		hi = tree.Digits(b.String())
	}
	if !sample.Equal(lo, hi) {
		lo = tree.Of("..", lo, hi)
	}
	if last == 0 {
		return lo
	}
	return tree.Of(`\/`, wantedTerm(l[:last]), lo)
}

func wantedOfTwo(name string, a, b []api.Range) string {
	inA, inB := membersOf(a), membersOf(b)
	in := map[string]members{
		"Inter": func(x *big.Int) bool { return inA(x) && inB(x) },
		"Union": func(x *big.Int) bool { return inA(x) || inB(x) },
		"Minus": func(x *big.Int) bool { return inA(x) && !inB(x) },
		"Same":  func(x *big.Int) bool { return inA(x) != inB(x) },
	}[name]
	l := spans(in, counted(a, b))
	if name == "Same" {
		return strconv.FormatBool(len(l) == 0)
	}
	return answered(l)
}

func wantedOfNumber(name string, a []api.Range, n *big.Int) string {
	in := membersOf(a)
	switch name {
	case "Has":
		return strconv.FormatBool(in(n))
	case "Next":
		above := new(big.Int).Add(n, big.NewInt(1))
		for _, s := range spansOf(a) {
			switch {
			case s.hi != nil && s.hi.Cmp(above) < 0:
			case s.lo != nil && s.lo.Cmp(above) > 0:
				return answeredInt(s.lo)
			default:
				return answeredInt(above)
			}
		}
		return "false"
	case "Shift":
		moved := func(x *big.Int) bool { return in(new(big.Int).Sub(x, n)) }
		return answered(spans(moved, each(counted(a), func(b *big.Int) *big.Int { return new(big.Int).Add(b, n) })))
	case "Parts":
		parts := func(x *big.Int) bool { return in(new(big.Int).Mul(n, x)) }
		if n.Sign() == 0 {
			return answered(spans(parts, nil))
		}
		return answered(spans(parts, each(counted(a), func(b *big.Int) *big.Int { return new(big.Int).Div(b, n) })))
	}
	times := func(b *big.Int) *big.Int { return new(big.Int).Mul(n, b) }
	return answered(spans(anyHas(scaled(spansOf(a), n.Sign(), times)), each(counted(a), times)))
}

// scaled are the ranges of a set between their ends times an integer.
func scaled(l []span, sign int, times func(b *big.Int) *big.Int) []span {
	var out []span
	for _, s := range l {
		if sign < 0 {
			s.lo, s.hi = s.hi, s.lo
		}
		if s.lo != nil {
			s.lo = times(s.lo)
		}
		if s.hi != nil {
			s.hi = times(s.hi)
		}
		if sign == 0 {
			s = span{new(big.Int), new(big.Int)}
		}
		out = append(out, s)
	}
	return out
}

func each(l []*big.Int, of func(b *big.Int) *big.Int) []*big.Int {
	var out []*big.Int
	for _, b := range l {
		out = append(out, of(b))
	}
	return out
}

// pool are sets at which something turns.
func pool() [][]api.Range {
	var out [][]api.Range
	for _, text := range []string{
		"none", "0", "5", "-7", "1..3", "-3..3", "9..8", "9..7", "inf..sup", "inf..5", "5..sup", "inf..0", "0..sup", "sup..inf", "inf..inf", "sup..sup", "5..inf", "sup..5",
		`1..3\/5`, `1..2\/3`, `3\/1..2`, `1..3\/3..9`, `1..9\/4`, `4\/1..9`, `5..7\/3..4\/9..8\/7..10`, `1..2\/4..5`, `2\/2\/2`, `4\/2\/0\/-2`, `0..1\/3..4\/-9.. -3`,
		`inf..5\/8..sup`, `inf..5\/6..sup`, `inf..5\/5..sup`, `inf..5\/9..4\/7\/9..sup`, `3..9\/inf..4`, `3..9\/6..sup`, `inf..4\/inf..8`, `5..sup\/2..sup`, `7..inf\/3`, `1..100\/102..1000`,
		"max", "-max", "-max..max", "max-1..max", "-max.. -max+1", "inf.. -max", "max..sup", "inf..max", "-max..sup", "-max+1..max-1", `inf.. -max\/max..sup`, `-max\/-max+2..max-2\/max`,
		`inf.. -max+1\/max-1..sup`, `max-4..max-3\/max-1..max`, `max-4..max-2\/max-1..max`, `-max.. -max+1\/-max+2.. -max+9`, `-max..0\/1..max`, `-max.. -1\/1..max`, `1..max\/max-1..sup`,
		"max+1", "inf..max+1", "-max-1..3", "max+1..inf", "sup.. -max-1", `1\/3\/max+1\/5`, "max+2..max+1",
	} {
		out = append(out, set(text))
	}
	for i, l := range out {
		if i%3 == 0 {
			out[i] = loose(l)
		}
	}
	return out
}

func numbers() []api.Int {
	var out []api.Int
	for _, text := range []string{"0", "1", "-1", "2", "-2", "3", "-3", "4", "5", "7", "-9", "10", "100", "max", "-max", "max-1", "-max+1", "max+1", "-max-1"} {
		out = append(out, integer(text), looseInt(integer(text)))
	}
	half := new(big.Int).Lsh(big.NewInt(1), api.MaxBits/2)
	return append(out, intOf(half), intOf(new(big.Int).Neg(half)))
}

// thrown is a set of a few ranges, near one another.
func thrown(d *sample.Dice) []api.Range {
	var out []api.Range
	for range d.Next(6) {
		lo := d.Next(25) - 12
		r := api.Range{Lo: thrownBound(d, -1, lo), Hi: thrownBound(d, 1, lo+d.Next(8)-2)}
		out = append(out, r)
	}
	if d.Next(4) == 0 {
		return loose(out)
	}
	return out
}

func thrownBound(d *sample.Dice, inf, n int) api.Bound {
	if d.Next(12) == 0 {
		return api.Bound{Inf: sample.Throw(d, inf, inf, inf, -inf)}
	}
	return api.Bound{N: intOf(big.NewInt(int64(n)))}
}

// P9.1 to P9.5: all calls of the pool.
func TestCallsOfThePool(t *testing.T) {
	for _, a := range pool() {
		for _, name := range ofOne() {
			checkOf(t, name, a, nil, api.Int{}, wanted(name, a, nil, api.Int{}))
		}
		for _, n := range numbers() {
			for _, name := range ofNumber() {
				checkOf(t, name, a, nil, n, wanted(name, a, nil, n))
			}
		}
		for _, b := range pool() {
			for _, name := range ofTwo() {
				checkOf(t, name, a, b, api.Int{}, wanted(name, a, b, api.Int{}))
			}
		}
	}
}

// P9.1 to P9.5: all calls of sets that are thrown.
func TestCallsOfThrownSets(t *testing.T) {
	d := sample.Dice(91)
	for range 1500 {
		a, b := thrown(&d), thrown(&d)
		n := intOf(big.NewInt(int64(d.Next(31) - 15)))
		for _, name := range ofAll() {
			checkOf(t, name, a, b, n, wanted(name, a, b, n))
		}
	}
}
