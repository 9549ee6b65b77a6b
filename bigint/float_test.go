package bigint_test

import (
	"math"
	"math/big"
	"testing"

	"hornbeam/api"
	"hornbeam/bigint"
)

func checkToFloat(t *testing.T, a api.Int) {
	t.Helper()
	want, _ := new(big.Float).SetInt(bigOf(a)).Float64()
	bits, e := bigint.ToFloat(a)
	if math.IsInf(want, 0) {
		if bits != 0 || e != api.ErrIntFloat {
			t.Errorf("ToFloat(%v): %x, %v; want ErrIntFloat", bigOf(a), bits, e)
		}
		return
	}
	if bits != math.Float64bits(want) || e != api.OK {
		t.Errorf("ToFloat(%v): %x, %v; want %x", bigOf(a), bits, e, math.Float64bits(want))
	}
}

// P1.7.
func TestToFloatOfThePool(t *testing.T) {
	for _, a := range pool() {
		checkToFloat(t, a)
	}
}

// Half way between two, and a bit beside it, at all lengths.
func TestToFloatHalfWay(t *testing.T) {
	for size := uint(50); size < 1100; size += 1 {
		for _, head := range []int64{1 << 53, 1<<53 + 1, 1<<53 + 2, 1<<53 + 3, 1<<54 - 1, 1<<54 - 2, 1<<54 - 3} {
			b := new(big.Int).Lsh(big.NewInt(head), size)
			b.Rsh(b, 50)
			for _, more := range []int64{-1, 0, 1} {
				a := intOf(new(big.Int).Add(b, big.NewInt(more)))
				checkToFloat(t, a)
				checkToFloat(t, loose(minus(a)))
			}
		}
	}
}

func TestToFloatThatIsTold(t *testing.T) {
	for _, c := range []struct {
		a    api.Int
		want float64
	}{
		{power(53, 1), 1 << 53}, {power(53, 3), 1<<53 + 4}, {minus(power(53, 1)), -(1 << 53)}, {power(53, -1), 1<<53 - 1},
		{power(54, -1), 1 << 54}, {read("1"), 1}, {read("-3"), -3}, {power(1023, 0), math.Ldexp(1, 1023)},
	} {
		if bits, e := bigint.ToFloat(c.a); bits != math.Float64bits(c.want) || e != api.OK {
			t.Errorf("ToFloat: %x, %v; want %v", bits, e, c.want)
		}
	}
	for _, zero := range []api.Int{{}, {Neg: true}, {Neg: true, Mag: []uint32{0, 0}}} {
		if bits, e := bigint.ToFloat(zero); bits != 0 || e != api.OK {
			t.Errorf("ToFloat of nought: %x, %v", bits, e)
		}
	}
}

// The greatest that is nearer to a finite float than to 2^1024, and the next.
func TestToFloatAtTheEnd(t *testing.T) {
	half := new(big.Int).Sub(bigOf(power(1024, 0)), bigOf(power(970, 0)))
	below := intOf(new(big.Int).Sub(half, big.NewInt(1)))
	if bits, e := bigint.ToFloat(below); bits != math.Float64bits(math.MaxFloat64) || e != api.OK {
		t.Errorf("below half way: %x, %v", bits, e)
	}
	if bits, e := bigint.ToFloat(minus(below)); bits != math.Float64bits(-math.MaxFloat64) || e != api.OK {
		t.Errorf("above half way: %x, %v", bits, e)
	}
	for _, a := range []api.Int{intOf(half), power(1024, -1), power(1024, 0), power(1025, 0), power(2047, 5), power(2048, 0), power(3072, -1), power(4096, -1)} {
		for _, b := range []api.Int{a, minus(a), loose(a)} {
			if bits, e := bigint.ToFloat(b); bits != 0 || e != api.ErrIntFloat {
				t.Errorf("ToFloat of %d bits: %x, %v", bigint.Bits(b), bits, e)
			}
		}
	}
}

func TestOfFloat(t *testing.T) {
	floats := []float64{0, math.Copysign(0, -1), 0.5, -0.5, 0.9999999999999999, 1, -1, 1.5, -2.75, 1e15 + 0.5, 4503599627370497.5, 1 << 52, 1<<53 - 1, 1 << 53, 1 << 54, -1e20, 1e300, math.MaxFloat64, -math.MaxFloat64, math.SmallestNonzeroFloat64, -math.SmallestNonzeroFloat64, math.Ldexp(1, -1022), math.Ldexp(1.5, 63), math.Ldexp(1.5, 64), 4294967295.9, -4294967296.1}
	d := dice(13)
	for range 3000 {
		f := math.Float64frombits(uint64(d.limb())<<32 | uint64(d.limb()))
		if !math.IsNaN(f) && !math.IsInf(f, 0) {
			floats = append(floats, f, math.Ldexp(math.Copysign(1+float64(d.limb())/(1<<32), f), d.next(120)-2))
		}
	}
	for _, f := range floats {
		want, _ := new(big.Float).SetFloat64(f).Int(nil)
		got, e := bigint.OfFloat(math.Float64bits(f))
		check(t, "OfFloat", got, e, want)
	}
}

func TestOfFloatThatIsNotFinite(t *testing.T) {
	for _, bits := range []uint64{0x7ff0000000000000, 0xfff0000000000000, 0x7ff0000000000001, 0x7ff8000000000000, 0xfff8000000000001, 0x7fffffffffffffff, math.MaxUint64} {
		got, e := bigint.OfFloat(bits)
		checkError(t, "OfFloat", got, e, api.ErrIntFloat)
	}
}
