package bigint_test

import (
	"math"
	"math/big"
	"testing"

	"hornbeam/api"
	"hornbeam/bigint"
)

// P1.2, P1.4 (Gcd), P1.5: of all pairs of the pool.
func TestBinaryCallsOfAllPairs(t *testing.T) {
	all := pool()
	for _, c := range binaries() {
		for _, a := range all {
			for _, b := range all {
				got, e := c.call(a, b)
				check(t, c.name, got, e, c.want(new(big.Int), bigOf(a), bigOf(b)))
			}
		}
	}
}

// P1.2: the longest that may come of it, and one more.
func TestSumsAndProductsAtTheLimit(t *testing.T) {
	most := power(4096, -1)
	for _, c := range []struct {
		name string
		call func(a, b api.Int) (api.Int, api.Errno)
		a, b api.Int
		e    api.Errno
	}{
		{"Add", bigint.Add, power(4096, -2), power(0, 0), api.OK},
		{"Add", bigint.Add, most, power(0, 0), api.ErrIntLong},
		{"Add", bigint.Add, minus(most), minus(power(0, 0)), api.ErrIntLong},
		{"Add", bigint.Add, most, minus(most), api.OK},
		{"Sub", bigint.Sub, minus(most), power(0, 0), api.ErrIntLong},
		{"Sub", bigint.Sub, most, most, api.OK},
		{"Mul", bigint.Mul, power(2048, -1), power(2048, 1), api.OK},
		{"Mul", bigint.Mul, power(2048, 0), power(2048, 0), api.ErrIntLong},
		{"Mul", bigint.Mul, minus(power(2048, 0)), power(2048, 0), api.ErrIntLong},
		{"Mul", bigint.Mul, power(2047, 0), power(2048, 0), api.OK},
		{"Mul", bigint.Mul, most, most, api.ErrIntLong},
		{"Mul", bigint.Mul, most, api.Int{}, api.OK},
	} {
		if got, e := c.call(c.a, c.b); e != c.e || e != api.OK && !isZero(got) {
			t.Errorf("%s: %v, want %v", c.name, e, c.e)
		}
	}
}

// floored is the quotient cut downwards, and its remainder.
func floored(a, b *big.Int) (*big.Int, *big.Int) {
	quo, rem := new(big.Int).QuoRem(a, b, new(big.Int))
	if rem.Sign() != 0 && rem.Sign() != b.Sign() {
		quo.Sub(quo, big.NewInt(1))
		rem.Add(rem, b)
	}
	return quo, rem
}

func checkDivisions(t *testing.T, a, b api.Int) {
	t.Helper()
	x, y := bigOf(a), bigOf(b)
	if y.Sign() == 0 {
		for _, c := range divisions() {
			checkNoDivision(t, c, a, b, api.ErrIntZero)
		}
		return
	}
	wantQuo, wantRem := new(big.Int).QuoRem(x, y, new(big.Int))
	quo, rem, e := bigint.QuoRem(a, b)
	check(t, "QuoRem", quo, e, wantQuo)
	check(t, "QuoRem's remainder", rem, e, wantRem)
	wantDiv, wantMod := floored(x, y)
	div, mod, e := bigint.DivMod(a, b)
	check(t, "DivMod", div, e, wantDiv)
	check(t, "DivMod's remainder", mod, e, wantMod)
	// P1.8: they differ just where something is left and the signs are unlike.
	if differ := bigint.Cmp(quo, div) != 0; differ != (wantRem.Sign() != 0 && x.Sign() != y.Sign()) {
		t.Errorf("QuoRem and DivMod of %v, %v: differ: %v", x, y, differ)
	}
}

func checkNoDivision(t *testing.T, c division, a, b api.Int, want api.Errno) {
	t.Helper()
	if quo, rem, e := c.call(a, b); e != want || !isZero(quo) || !isZero(rem) {
		t.Errorf("%s: %v, %v, %v; want %v", c.name, quo, rem, e, want)
	}
}

// P1.3.
func TestDivisionsOfAllPairs(t *testing.T) {
	all := pool()
	for _, a := range all {
		for _, b := range all {
			checkDivisions(t, a, b)
		}
	}
}

// P1.3: limbs at which the guess of a quotient's limb goes wrong.
func TestDivisionsOfManyLimbs(t *testing.T) {
	d := dice(7)
	for range 60000 {
		checkDivisions(t, d.integer(9), d.integer(5))
	}
	for range 300 {
		checkDivisions(t, d.integer(128), d.integer(128))
	}
}

func TestDivisionsThatAreTold(t *testing.T) {
	for _, c := range [][6]string{
		{"-7", "2", "-3", "-1", "-4", "1"},
		{"7", "-2", "-3", "1", "-4", "-1"},
		{"-7", "-2", "3", "-1", "3", "-1"},
		{"7", "2", "3", "1", "3", "1"},
		{"-6", "3", "-2", "0", "-2", "0"},
		{"1", "-5", "0", "1", "-1", "-4"},
		{"-1", "0x100000000", "0", "-1", "-1", "4294967295"},
		{"0", "-5", "0", "0", "0", "0"},
	} {
		quo, rem, e := bigint.QuoRem(read(c[0]), read(c[1]))
		div, mod, f := bigint.DivMod(read(c[0]), read(c[1]))
		got := [4]string{bigOf(quo).String(), bigOf(rem).String(), bigOf(div).String(), bigOf(mod).String()}
		if got != [4]string(c[2:]) || e != api.OK || f != api.OK {
			t.Errorf("%v: %v, %v, %v", c, got, e, f)
		}
	}
	for _, zero := range []api.Int{{}, {Neg: true}, {Mag: []uint32{0, 0}}} {
		checkDivisions(t, power(0, 0), zero)
		checkDivisions(t, api.Int{}, zero)
	}
	checkDivisions(t, power(4096, -1), minus(power(0, 0)))
	checkDivisions(t, minus(power(4096, -1)), power(0, 0))
}

// P1.4.
func TestPow(t *testing.T) {
	for _, c := range []struct {
		a    string
		n    int
		want string
	}{
		{"2", 100, "1267650600228229401496703205376"},
		{"-3", 3, "-27"}, {"-3", 4, "81"}, {"7", 1, "7"}, {"7", 0, "1"},
		{"0", 0, "1"}, {"0", 1, "0"}, {"0", math.MaxInt, "0"},
		{"1", 1 << 62, "1"}, {"1", math.MaxInt, "1"},
		{"-1", math.MaxInt, "-1"}, {"-1", math.MaxInt - 1, "1"}, {"-1", 0, "1"},
	} {
		got, e := bigint.Pow(loose(read(c.a)), c.n)
		check(t, "Pow", got, e, bigOf(read(c.want)))
	}
	for _, n := range []int{-1, -4097, math.MinInt} {
		for _, a := range []string{"3", "1", "0", "-1"} {
			got, e := bigint.Pow(read(a), n)
			checkError(t, "Pow", got, e, api.ErrIntArg)
		}
	}
	for _, n := range []int{4096, 4097, 8192, 1 << 32, math.MaxInt} {
		for _, a := range []string{"2", "-2", "1000000000000000000000"} {
			got, e := bigint.Pow(read(a), n)
			checkError(t, "Pow", got, e, api.ErrIntLong)
		}
	}
}

func TestPowOfMany(t *testing.T) {
	d := dice(3)
	for _, n := range []int{0, 1, 2, 3, 5, 7, 8, 31, 64, 100, 127, 128, 129, 4095, 4096} {
		for _, a := range []api.Int{read("2"), read("-2"), read("3"), read("-10"), power(32, 0), power(32, -1), power(64, 0), power(64, -1), d.integer(2), d.integer(128)} {
			got, e := bigint.Pow(a, n)
			check(t, "Pow", got, e, new(big.Int).Exp(bigOf(a), big.NewInt(int64(n)), nil))
		}
	}
}

// P1.4: big's Rsh is cut downwards too.
func TestShiftOfMany(t *testing.T) {
	for _, a := range pool() {
		for _, n := range []int{0, 1, 5, 31, 32, 33, 63, 64, 100, 2048, 4064, 4095, 4096, 4097, 5000} {
			got, e := bigint.Shift(a, n)
			check(t, "Shift up", got, e, new(big.Int).Lsh(bigOf(a), uint(n)))
			got, e = bigint.Shift(a, -n)
			check(t, "Shift down", got, e, new(big.Int).Rsh(bigOf(a), uint(n)))
		}
	}
}

func TestShiftByTheGreatestAndLeast(t *testing.T) {
	for _, c := range []struct {
		a    api.Int
		n    int
		want string
		e    api.Errno
	}{
		{read("-7"), -1, "-4", api.OK},
		{read("3"), 40, "3298534883328", api.OK},
		{read("-1"), -5000, "-1", api.OK},
		{read("-1"), math.MinInt, "-1", api.OK},
		{read("1"), math.MinInt, "0", api.OK},
		{minus(power(4096, -1)), math.MinInt, "-1", api.OK},
		{power(4096, -1), -4096, "0", api.OK},
		{power(4096, -1), -4095, "1", api.OK},
		{minus(power(4096, -1)), -4095, "-2", api.OK},
		{read("1"), 4096, "0", api.ErrIntLong},
		{read("-1"), 4096, "0", api.ErrIntLong},
		{read("1"), math.MaxInt, "0", api.ErrIntLong},
		{power(4096, -1), math.MaxInt, "0", api.ErrIntLong},
		{power(4096, -1), 1, "0", api.ErrIntLong},
		{api.Int{}, 1 << 62, "0", api.OK},
		{api.Int{Neg: true, Mag: []uint32{0}}, math.MaxInt, "0", api.OK},
		{api.Int{Neg: true, Mag: []uint32{0}}, math.MinInt, "0", api.OK},
	} {
		got, e := bigint.Shift(c.a, c.n)
		if bigOf(got).String() != c.want || e != c.e || !isNormal(got) {
			t.Errorf("Shift by %d: %v, %v; want %s, %v", c.n, bigOf(got), e, c.want, c.e)
		}
	}
	if got, e := bigint.Shift(power(0, 0), 4095); e != api.OK || bigint.Bits(got) != api.MaxBits {
		t.Errorf("Shift by 4095: %v", e)
	}
}

func TestGcd(t *testing.T) {
	for _, c := range [][3]string{{"-12", "18", "6"}, {"0", "-5", "5"}, {"-5", "0", "5"}, {"0", "0", "0"}, {"1", "-1", "1"}, {"-7", "-7", "7"}, {"17", "5", "1"}} {
		got, e := bigint.Gcd(loose(read(c[0])), loose(read(c[1])))
		check(t, "Gcd", got, e, bigOf(read(c[2])))
	}
	d := dice(11)
	for range 100 {
		a, b, f := d.integer(40), d.integer(40), d.integer(40)
		a, _ = bigint.Mul(a, f)
		b, _ = bigint.Mul(b, f)
		got, e := bigint.Gcd(a, b)
		check(t, "Gcd", got, e, gcdOf(new(big.Int), bigOf(a), bigOf(b)))
	}
}
