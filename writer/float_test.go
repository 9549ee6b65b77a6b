package writer_test

import (
	"fmt"
	"math"
	"math/big"
	"strconv"
	"strings"
	"testing"

	"hornbeam/api"
	"hornbeam/lexer"
	"hornbeam/sample"
	"hornbeam/writer"
)

func checkFloat(t *testing.T, f float64, want string) {
	t.Helper()
	if got, e := writer.Float(math.Float64bits(f)); got != want || e != api.OK {
		t.Errorf("Float(%g) tells %q, %v; want %q", f, got, e, want)
	}
}

// P6.2: the examples, and edges.
func TestFloats(t *testing.T) {
	for want, f := range map[string]float64{
		"0.1":                     0.1,
		"1.0e15":                  1e15,
		"1500.0":                  1500,
		"0.0001":                  1e-4,
		"1.0e-5":                  1e-5,
		"5.0e-324":                5e-324,
		"0.0":                     0,
		"-0.0":                    math.Copysign(0, -1),
		"1.0":                     1,
		"-1.0":                    -1,
		"-2.5":                    -2.5,
		"10.0":                    10,
		"0.5":                     0.5,
		"12.25":                   12.25,
		"0.012":                   0.012,
		"0.00012":                 0.00012,
		"1.2e-5":                  0.000012,
		"-0.0001":                 -1e-4,
		"-1.0e-5":                 -1e-5,
		"9.999999999999999e-5":    math.Nextafter(1e-4, 0),
		"0.00010000000000000002":  math.Nextafter(1e-4, 1),
		"100000000000000.0":       1e14,
		"123456789012345.0":       123456789012345,
		"123456789012345.67":      123456789012345.67,
		"999999999999999.0":       999999999999999,
		"999999999999999.9":       math.Nextafter(1e15, 0),
		"1.0000000000000001e15":   math.Nextafter(1e15, math.Inf(1)),
		"1.234567890123456e15":    1234567890123456,
		"-1.0e15":                 -1e15,
		"1.0e22":                  1e22,
		"1.0e23":                  1e23,
		"1.0000000000000001e23":   math.Nextafter(1e23, math.Inf(1)),
		"9.007199254740992e15":    9007199254740992,
		"9.007199254740994e15":    9007199254740994,
		"0.3":                     0.3,
		"0.30000000000000004":     math.Nextafter(0.3, 1),
		"1.7976931348623157e308":  math.MaxFloat64,
		"-1.7976931348623157e308": -math.MaxFloat64,
		"2.2250738585072014e-308": 0x1p-1022,
		"2.225073858507201e-308":  math.Nextafter(0x1p-1022, 0),
		"1.0e-323":                1e-323,
		"1.5e-323":                1.5e-323,
		"5.684341886080802e-14":   0x1p-44,
		"4.440892098500626e-16":   0x1p-51,
		"1.1754943508222875e-38":  0x1p-126,
		"1.0e100":                 1e100,
		"1.0e-100":                1e-100,
	} {
		checkFloat(t, f, want)
	}
	for _, bits := range []uint64{0x7ff << 52, 0xfff << 52, 0x7ff<<52 | 1, 0xfff<<52 | 1, 0x7ff8 << 48, math.MaxUint64, math.MaxInt64} {
		if got, e := writer.Float(bits); got != "" || e != api.ErrIntFloat {
			t.Errorf("Float(%x) tells %q, %v", bits, got, e)
		}
	}
}

// nearby are the ends between which numbers are read as a float above 0, and
// whether they are themselves.
func nearby(f float64) (*big.Rat, *big.Rat, bool) {
	half := big.NewRat(1, 2)
	between := func(a, b *big.Rat) *big.Rat { return new(big.Rat).Mul(new(big.Rat).Add(a, b), half) }
	x, below := new(big.Rat).SetFloat64(f), new(big.Rat).SetFloat64(math.Nextafter(f, 0))
	above := new(big.Rat).SetFloat64(math.Nextafter(f, math.Inf(1)))
	if above == nil {
		// Behind the greatest float the next one would stand as far away.
		above = new(big.Rat).Sub(new(big.Rat).Add(x, x), below)
	}
	return between(x, below), between(x, above), math.Float64bits(f)&1 == 0
}

func powerOfTen(k int) *big.Rat {
	out, _ := new(big.Rat).SetString(fmt.Sprintf("1e%d", k))
	return out
}

// row is the chapter's row of digits of a float above 0, by exact reckoning,
// and the power of ten of its first one.
func row(f float64) (string, int) {
	lo, hi, ends := nearby(f)
	x := new(big.Rat).SetFloat64(f)
	first := int(math.Floor(math.Log10(f))) + 1
	for powerOfTen(first).Cmp(x) > 0 {
		first--
	}
	for count := 1; ; count++ {
		unit := powerOfTen(first - count + 1)
		parts := new(big.Rat).Quo(x, unit)
		down := new(big.Int).Quo(parts.Num(), parts.Denom())
		var best *big.Int
		var bestGap *big.Rat
		for _, digits := range []*big.Int{down, new(big.Int).Add(down, big.NewInt(1))} {
			value := new(big.Rat).Mul(new(big.Rat).SetInt(digits), unit)
			below, above := value.Cmp(lo), value.Cmp(hi)
			if below < 0 || above > 0 || (below == 0 || above == 0) && !ends {
				continue
			}
			gap := new(big.Rat).Abs(new(big.Rat).Sub(value, x))
			if best == nil || gap.Cmp(bestGap) < 0 || gap.Cmp(bestGap) == 0 && digits.Bit(0) == 0 {
				best, bestGap = digits, gap
			}
		}
		if best != nil {
			text := best.String()
			return strings.TrimRight(text, "0"), first + len(text) - count
		}
	}
}

// expectedFloat is what P6.2 says.
func expectedFloat(f float64) string {
	switch {
	case math.Signbit(f):
		return "-" + expectedFloat(-f)
	case f == 0:
		return "0.0"
	}
	d, e := row(f)
	if e < -4 || e > 14 {
		rest := d[1:]
		if rest == "" {
			rest = "0"
		}
		return d[:1] + "." + rest + "e" + strconv.Itoa(e)
	}
	// So many noughts that the point has its place, whatever e is.
	text := strings.Repeat("0", 20) + d + strings.Repeat("0", 20)
	point := 21 + e
	return strings.TrimLeft(text[:point-1], "0") + text[point-1:point] + "." + text[point:point+1] + strings.TrimRight(text[point+1:], "0")
}

func checkExact(t *testing.T, f float64) {
	t.Helper()
	if math.IsNaN(f) || math.IsInf(f, 0) {
		return
	}
	want := expectedFloat(f)
	checkFloat(t, f, want)
	k, e := lexer.Next(strings.TrimPrefix(want, "-"), 0)
	if e != api.OK || k.Kind != api.TFloat || k.Bits != math.Float64bits(math.Abs(f)) {
		t.Errorf("%s is read as %g, %v", want, math.Float64frombits(k.Bits), e)
	}
}

// P6.2, P6.4: powers of two and what stands beside them, short rows of digits
// and what stands beside these, and floats that are thrown.
func TestFloatsByExactReckoning(t *testing.T) {
	for exponent := uint64(0); exponent < 2047; exponent++ {
		for _, rest := range []uint64{0, 1, 1<<52 - 1} {
			checkExact(t, math.Float64frombits(exponent<<52|rest))
		}
	}
	for i := range uint64(300) {
		checkExact(t, math.Float64frombits(i))
	}
	d := sample.Dice(61)
	for exponent := -324; exponent <= 308; exponent++ {
		f, _ := strconv.ParseFloat(fmt.Sprintf("%de%d", 1+d.Next(1000), exponent), 64)
		checkExact(t, f)
		checkExact(t, -math.Nextafter(f, 0))
	}
	for range 4000 {
		f := float64(d.Next(1<<30))*float64(d.Next(1<<30)) + float64(d.Next(1<<20))
		checkExact(t, f)
		checkExact(t, math.Ldexp(f, -d.Next(120)))
		checkExact(t, math.Ldexp(f, d.Next(960)))
		checkExact(t, float64(d.Next(1000000))/math.Pow10(d.Next(12)))
		checkExact(t, math.Float64frombits(uint64(d.Next(1<<31))<<33^uint64(d.Next(1<<31))<<5))
	}
}
