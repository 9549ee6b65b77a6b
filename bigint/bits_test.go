package bigint_test

import (
	"math/big"
	"testing"

	"hornbeam/api"
	"hornbeam/bigint"
)

// P1.5: And, Or, Xor of all pairs stand in TestBinaryCallsOfAllPairs.
func TestNotIsMinusOneLess(t *testing.T) {
	for _, a := range pool() {
		got, e := bigint.Not(a)
		check(t, "Not", got, e, new(big.Int).Not(bigOf(a)))
	}
	for _, c := range [][2]string{{"0", "-1"}, {"-1", "0"}, {"7", "-8"}, {"-4294967296", "4294967295"}, {"4294967295", "-4294967296"}} {
		got, e := bigint.Not(read(c[0]))
		check(t, "Not", got, e, bigOf(read(c[1])))
	}
}

func TestBitsThatAreTold(t *testing.T) {
	for _, c := range []struct {
		call       func(a, b api.Int) (api.Int, api.Errno)
		a, b, want string
	}{
		{bigint.And, "-4", "6", "4"}, {bigint.And, "-4", "-6", "-8"}, {bigint.And, "12", "10", "8"}, {bigint.And, "-1", "0", "0"},
		{bigint.Or, "-4", "3", "-1"}, {bigint.Or, "12", "10", "14"}, {bigint.Or, "-8", "-3", "-3"}, {bigint.Or, "0", "-5", "-5"},
		{bigint.Xor, "-1", "5", "-6"}, {bigint.Xor, "12", "10", "6"}, {bigint.Xor, "-12", "-10", "2"}, {bigint.Xor, "-7", "-7", "0"},
		{bigint.And, "-0x100000000", "-1", "-0x100000000"}, {bigint.Xor, "0xffffffff", "-1", "-0x100000000"},
	} {
		got, e := c.call(read(c.a), read(c.b))
		check(t, c.a+" and "+c.b, got, e, bigOf(read(c.want)))
	}
}

// P1.5: of integers that are short enough one may come that has a bit more.
func TestBitsAtTheLimit(t *testing.T) {
	most := power(4096, -1)
	one := power(0, 0)
	for _, c := range []struct {
		name string
		call func(a, b api.Int) (api.Int, api.Errno)
		a, b api.Int
		e    api.Errno
	}{
		{"And", bigint.And, minus(most), minus(power(1, 0)), api.ErrIntLong},
		{"And", bigint.And, minus(most), minus(one), api.OK},
		{"And", bigint.And, minus(most), most, api.OK},
		{"Or", bigint.Or, minus(most), most, api.OK},
		{"Xor", bigint.Xor, most, minus(one), api.ErrIntLong},
		{"Xor", bigint.Xor, minus(most), one, api.ErrIntLong},
		{"Xor", bigint.Xor, minus(most), minus(one), api.OK},
	} {
		got, e := c.call(c.a, c.b)
		if e != c.e || e != api.OK && !isZero(got) {
			t.Errorf("%s: %v, want %v", c.name, e, c.e)
		}
	}
	got, e := bigint.Not(most)
	checkError(t, "Not", got, e, api.ErrIntLong)
	got, e = bigint.Not(minus(most))
	check(t, "Not", got, e, bigOf(power(4096, -2)))
}
