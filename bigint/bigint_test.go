package bigint_test

import (
	"math"
	"math/big"
	"testing"

	"hornbeam/api"
	"hornbeam/bigint"
)

// P1.1: the calls that take integers however long.
func TestFormsOfAnyLength(t *testing.T) {
	for _, a := range append(pool(), tooLong()...) {
		b := bigOf(a)
		if got := bigint.Norm(a); !isNormal(got) || bigOf(got).Cmp(b) != 0 {
			t.Errorf("Norm(%v): %v", a, got)
		}
		if got := bigint.Neg(a); !isNormal(got) || bigOf(got).Cmp(new(big.Int).Neg(b)) != 0 {
			t.Errorf("Neg(%v): %v", a, got)
		}
		if got := bigint.Sign(a); got != b.Sign() {
			t.Errorf("Sign(%v): %d", a, got)
		}
		if got := bigint.Bits(a); got != b.BitLen() {
			t.Errorf("Bits(%v): %d, want %d", a, got, b.BitLen())
		}
		n, ok := bigint.To(a)
		if ok != b.IsInt64() || ok && int64(n) != b.Int64() || !ok && n != 0 {
			t.Errorf("To(%v): %d, %v", a, n, ok)
		}
	}
}

func TestCmpOfAllPairs(t *testing.T) {
	all := append(pool(), tooLong()...)
	for _, a := range all {
		for _, b := range all {
			if got, want := bigint.Cmp(a, b), bigOf(a).Cmp(bigOf(b)); got != want {
				t.Errorf("Cmp(%v, %v): %d, want %d", a, b, got, want)
			}
		}
	}
}

func TestNoughtIsNeverBelowItself(t *testing.T) {
	for _, a := range []api.Int{{}, {Neg: true}, {Neg: true, Mag: []uint32{0}}, {Mag: []uint32{0, 0, 0}}} {
		if !isZero(bigint.Norm(a)) || !isZero(bigint.Neg(a)) || bigint.Sign(a) != 0 || bigint.Bits(a) != 0 {
			t.Errorf("%v is not nought", a)
		}
		if bigint.Cmp(a, api.Int{}) != 0 || bigint.Cmp(api.Int{}, a) != 0 {
			t.Errorf("%v is not the same as nought", a)
		}
	}
}

func TestFromAndToLeadBack(t *testing.T) {
	for _, n := range []int{0, 1, -1, 255, -256, math.MaxUint32, math.MaxUint32 + 1, -math.MaxUint32 - 1, math.MaxInt, math.MaxInt - 1, math.MinInt, math.MinInt + 1} {
		a := bigint.From(n)
		if !isNormal(a) || bigOf(a).Cmp(big.NewInt(int64(n))) != 0 {
			t.Errorf("From(%d): %v", n, a)
		}
		if m, ok := bigint.To(loose(a)); m != n || !ok {
			t.Errorf("To(From(%d)): %d, %v", n, m, ok)
		}
	}
	for _, a := range []api.Int{power(63, 0), minus(power(63, 1)), power(64, 0), minus(power(64, 0)), power(96, 5)} {
		if n, ok := bigint.To(a); n != 0 || ok {
			t.Errorf("To(%v): %d, %v", a, n, ok)
		}
	}
}

// The section Errors: an integer of more than MaxBits bits is told ahead of
// all else, whatever stands beside it.
func TestTooLongIsToldFirst(t *testing.T) {
	for _, a := range tooLong() {
		for _, b := range []api.Int{{}, power(0, 0), minus(power(4095, 3)), a} {
			for _, c := range binaries() {
				got, e := c.call(a, b)
				checkError(t, c.name, got, e, api.ErrIntLong)
				got, e = c.call(b, a)
				checkError(t, c.name, got, e, api.ErrIntLong)
			}
			for _, c := range divisions() {
				checkNoDivision(t, c, a, b, api.ErrIntLong)
				checkNoDivision(t, c, b, a, api.ErrIntLong)
			}
		}
		for _, c := range []unary{
			{"Pow", func(a api.Int) (api.Int, api.Errno) { return bigint.Pow(a, -1) }},
			{"Pow by 0", func(a api.Int) (api.Int, api.Errno) { return bigint.Pow(a, 0) }},
			{"Shift", func(a api.Int) (api.Int, api.Errno) { return bigint.Shift(a, math.MinInt) }},
			{"Not", bigint.Not},
		} {
			got, e := c.call(a)
			checkError(t, c.name, got, e, api.ErrIntLong)
		}
		if s, e := bigint.Text(a, 0); s != "" || e != api.ErrIntLong {
			t.Errorf("Text: %s, %v", s, e)
		}
		if f, e := bigint.ToFloat(a); f != 0 || e != api.ErrIntLong {
			t.Errorf("ToFloat: %x, %v", f, e)
		}
	}
}

// R4: what is handed in stays, spare room and all, and no answer shares
// memory with it or with another answer.
func TestMemoryIsNotShared(t *testing.T) {
	const mark = 0xabad1dea
	given := func(limbs ...uint32) api.Int {
		mag := make([]uint32, len(limbs), len(limbs)+4)
		copy(mag, limbs)
		for i := len(limbs); i < cap(mag); i++ {
			mag[:cap(mag)][i] = mark
		}
		return api.Int{Neg: true, Mag: mag}
	}
	for _, c := range memoryCalls() {
		a, b := given(7, 8, 9, 0), given(5, 6, 0)
		for _, out := range c.call(a, b) {
			for i := range out.Mag[:cap(out.Mag)] {
				out.Mag[:cap(out.Mag)][i] = 77
			}
		}
		if got := append(a.Mag[:8:8], b.Mag[:7:7]...); !same(got, 7, 8, 9, 0, mark, mark, mark, mark, 5, 6, 0, mark, mark, mark, mark) {
			t.Errorf("%s: changed or shared: %v", c.name, got)
		}
	}
}

func TestTwoAnswersShareNothing(t *testing.T) {
	for _, c := range divisions() {
		quo, rem, _ := c.call(power(200, 9), power(70, 3))
		wantQuo, wantRem := bigOf(quo), bigOf(rem)
		_ = append(quo.Mag[:0:cap(quo.Mag)], make([]uint32, cap(quo.Mag))...)
		if bigOf(rem).Cmp(wantRem) != 0 {
			t.Errorf("%s: the quotient shares the remainder's memory", c.name)
		}
		quo, rem, _ = c.call(power(200, 9), power(70, 3))
		_ = append(rem.Mag[:0:cap(rem.Mag)], make([]uint32, cap(rem.Mag))...)
		if bigOf(quo).Cmp(wantQuo) != 0 {
			t.Errorf("%s: the remainder shares the quotient's memory", c.name)
		}
	}
}

func same(got []uint32, want ...uint32) bool {
	for i := range got {
		if got[i] != want[i] {
			return false
		}
	}
	return len(got) == len(want)
}

type memoryCall struct {
	name string
	call func(a, b api.Int) []api.Int
}

// memoryCalls has each call whose answers have limbs, such that some of its
// arguments go out as they came.
func memoryCalls() []memoryCall {
	one := func(a api.Int, _ api.Errno) []api.Int { return []api.Int{a} }
	two := func(a, b api.Int, _ api.Errno) []api.Int { return []api.Int{a, b} }
	unit := power(0, 0)
	out := []memoryCall{
		{"Norm", func(a, b api.Int) []api.Int { return []api.Int{bigint.Norm(a), bigint.Neg(b)} }},
		{"Add nought", func(a, b api.Int) []api.Int { return one(bigint.Add(a, api.Int{})) }},
		{"Sub from nought", func(a, b api.Int) []api.Int { return one(bigint.Sub(api.Int{}, b)) }},
		{"Mul by one", func(a, b api.Int) []api.Int { return one(bigint.Mul(a, unit)) }},
		{"Gcd with nought", func(a, b api.Int) []api.Int { return one(bigint.Gcd(a, api.Int{})) }},
		{"Pow by one", func(a, b api.Int) []api.Int { return one(bigint.Pow(a, 1)) }},
		{"Shift by nought", func(a, b api.Int) []api.Int { return one(bigint.Shift(a, 0)) }},
		{"Not", func(a, b api.Int) []api.Int { return one(bigint.Not(a)) }},
	}
	for _, c := range binaries() {
		out = append(out, memoryCall{c.name, func(a, b api.Int) []api.Int { return one(c.call(a, b)) }})
	}
	for _, c := range divisions() {
		out = append(out,
			memoryCall{c.name, func(a, b api.Int) []api.Int { return two(c.call(a, b)) }},
			memoryCall{c.name + " of the less", func(a, b api.Int) []api.Int { return two(c.call(b, a)) }},
			memoryCall{c.name + " by one", func(a, b api.Int) []api.Int { return two(c.call(a, unit)) }})
	}
	return out
}
