package bigint_test

import (
	"math/big"
	"slices"
	"testing"

	"hornbeam/api"
	"hornbeam/bigint"
)

// The tests hold the package against math/big, which reckons on its own.

func bigOf(a api.Int) *big.Int {
	out := new(big.Int)
	for i := len(a.Mag) - 1; i >= 0; i-- {
		out.Lsh(out, 32)
		out.Or(out, big.NewInt(int64(a.Mag[i])))
	}
	if a.Neg {
		out.Neg(out)
	}
	return out
}

func intOf(b *big.Int) api.Int {
	out := api.Int{Neg: b.Sign() < 0}
	rest, mask := new(big.Int).Abs(b), big.NewInt(1<<32-1)
	for rest.Sign() > 0 {
		out.Mag = append(out.Mag, uint32(new(big.Int).And(rest, mask).Uint64()))
		rest.Rsh(rest, 32)
	}
	return out
}

func read(s string) api.Int {
	b, ok := new(big.Int).SetString(s, 0)
	if !ok {
		panic(s)
	}
	return intOf(b)
}

// power is 2 to the power of n, and more beside it.
func power(n uint, more int64) api.Int {
	b := new(big.Int).Lsh(big.NewInt(1), n)
	return intOf(b.Add(b, big.NewInt(more)))
}

func minus(a api.Int) api.Int { return api.Int{Neg: !a.Neg, Mag: a.Mag} }

// loose is the same integer, with noughts at the high end, and spare room.
func loose(a api.Int) api.Int {
	mag := make([]uint32, len(a.Mag)+3, len(a.Mag)+5)
	copy(mag, a.Mag)
	return api.Int{Neg: a.Neg, Mag: mag}
}

func isNormal(a api.Int) bool {
	if len(a.Mag) == 0 {
		return !a.Neg
	}
	return a.Mag[len(a.Mag)-1] != 0
}

func isZero(a api.Int) bool { return !a.Neg && len(a.Mag) == 0 }

// check tells whether an answer is what the chapter asks: want, normal, or
// ErrIntLong and nought, if want has more than MaxBits bits.
func check(t *testing.T, what string, got api.Int, e api.Errno, want *big.Int) {
	t.Helper()
	if want.BitLen() > api.MaxBits {
		if e != api.ErrIntLong || !isZero(got) {
			t.Errorf("%s: %v, %v; want ErrIntLong and nought", what, bigOf(got), e)
		}
		return
	}
	if e != api.OK || !isNormal(got) || bigOf(got).Cmp(want) != 0 {
		t.Errorf("%s: %v (%v), %v; want %v", what, bigOf(got), got, e, want)
	}
}

func checkError(t *testing.T, what string, got api.Int, e, want api.Errno) {
	t.Helper()
	if e != want || !isZero(got) {
		t.Errorf("%s: %v, %v; want %v and nought", what, got, e, want)
	}
}

// dice are numbers that look like any, the same in each run.
type dice uint64

func (d *dice) next(n int) int {
	*d = *d*6364136223846793005 + 1442695040888963407
	return int(uint64(*d)>>33) % n
}

// limb is mostly one at which carries and guesses go to their ends.
func (d *dice) limb() uint32 {
	edges := []uint32{0, 1, 0x7fffffff, 0x80000000, 0x80000001, 0xfffffffe, 0xffffffff}
	if i := d.next(len(edges) + 3); i < len(edges) {
		return edges[i]
	}
	return uint32(d.next(1<<16))<<16 | uint32(d.next(1<<16))
}

func (d *dice) integer(limbs int) api.Int {
	a := api.Int{Neg: d.next(2) == 0}
	for range d.next(limbs + 1) {
		a.Mag = append(a.Mag, d.limb())
	}
	return a
}

// pool has the edges of the chapter, of both signs, normal and loose, and
// others that look like any.
func pool() []api.Int {
	var out []api.Int
	for _, n := range []uint{0, 1, 2, 31, 32, 33, 52, 53, 54, 63, 64, 65, 96, 1023, 1024, 2048, 4095} {
		out = append(out, power(n, -1), power(n, 0), power(n, 1))
	}
	out = append(out, power(4096, -1), power(4096, -2), power(4095, 2), read("3"), read("10"), read("720720"))
	d := dice(1)
	for _, limbs := range []int{1, 2, 3, 4, 5, 8, 20, 64, 128} {
		out = append(out, d.integer(limbs), d.integer(limbs))
	}
	for _, a := range slices.Clone(out) {
		out = append(out, minus(a))
	}
	for i, a := range out {
		if i%3 == 0 {
			out[i] = loose(a)
		}
	}
	return append(out, api.Int{}, api.Int{Neg: true}, api.Int{Neg: true, Mag: []uint32{0, 0}})
}

// tooLong are integers of more than MaxBits bits.
func tooLong() []api.Int {
	return []api.Int{power(4096, 0), minus(power(4096, 0)), loose(power(4096, 1)), power(100000, 7)}
}

type unary struct {
	name string
	call func(a api.Int) (api.Int, api.Errno)
}

type binary struct {
	name string
	call func(a, b api.Int) (api.Int, api.Errno)
	want func(out, a, b *big.Int) *big.Int
}

func gcdOf(out, a, b *big.Int) *big.Int {
	return out.GCD(nil, nil, new(big.Int).Abs(a), new(big.Int).Abs(b))
}

func binaries() []binary {
	return []binary{
		{"Add", bigint.Add, (*big.Int).Add},
		{"Sub", bigint.Sub, (*big.Int).Sub},
		{"Mul", bigint.Mul, (*big.Int).Mul},
		{"Gcd", bigint.Gcd, gcdOf},
		{"And", bigint.And, (*big.Int).And},
		{"Or", bigint.Or, (*big.Int).Or},
		{"Xor", bigint.Xor, (*big.Int).Xor},
	}
}

type division struct {
	name string
	call func(a, b api.Int) (api.Int, api.Int, api.Errno)
}

func divisions() []division {
	return []division{{"QuoRem", bigint.QuoRem}, {"DivMod", bigint.DivMod}}
}
