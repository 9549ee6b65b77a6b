package bigint_test

import (
	"testing"

	"hornbeam/api"
	"hornbeam/bigint"
)

// P1.8: what follows. The calls here are held against one another alone.

func must(t *testing.T) func(a api.Int, e api.Errno) api.Int {
	return func(a api.Int, e api.Errno) api.Int {
		t.Helper()
		if e != api.OK {
			t.Fatal(e)
		}
		return a
	}
}

func alike(t *testing.T, law string, a, b api.Int) {
	t.Helper()
	if bigint.Cmp(a, b) != 0 {
		t.Errorf("%s: %v, %v", law, a, b)
	}
}

func TestLawsOfReckoning(t *testing.T) {
	get, d := must(t), dice(17)
	for range 400 {
		a, b, c := d.integer(40), d.integer(40), d.integer(40)
		for _, f := range binaries() {
			if f.name != "Sub" {
				alike(t, f.name+" the other way round", get(f.call(a, b)), get(f.call(b, a)))
			}
		}
		both := get(bigint.Add(a, b))
		alike(t, "Sub of the sum", get(bigint.Sub(both, a)), b)
		alike(t, "Mul shares out", get(bigint.Mul(both, c)), get(bigint.Add(get(bigint.Mul(a, c)), get(bigint.Mul(b, c)))))
		alike(t, "Sub is Add of Neg", get(bigint.Sub(a, b)), get(bigint.Add(a, bigint.Neg(b))))
	}
}

func TestLawsOfBits(t *testing.T) {
	get, d := must(t), dice(19)
	for range 400 {
		a, b, c := d.integer(40), d.integer(40), d.integer(40)
		and, or, xor := get(bigint.And(a, b)), get(bigint.Or(a, b)), get(bigint.Xor(a, b))
		alike(t, "Xor is Or without And", xor, get(bigint.And(or, get(bigint.Not(and)))))
		alike(t, "Add is Or and And", get(bigint.Add(a, b)), get(bigint.Add(or, and)))
		alike(t, "And shares out over Or", get(bigint.And(or, c)), get(bigint.Or(get(bigint.And(a, c)), get(bigint.And(b, c)))))
		alike(t, "Not of And is Or of Nots", get(bigint.Not(and)), get(bigint.Or(get(bigint.Not(a)), get(bigint.Not(b)))))
		alike(t, "Not twice", get(bigint.Not(get(bigint.Not(a)))), a)
		alike(t, "And of itself", get(bigint.And(a, a)), a)
		alike(t, "Xor of itself", get(bigint.Xor(a, a)), api.Int{})
	}
}

func TestLawsOfDivision(t *testing.T) {
	get, d := must(t), dice(23)
	for range 2000 {
		a, b := d.integer(12), d.integer(6)
		for _, c := range divisions() {
			quo, rem, e := c.call(a, b)
			if bigint.Sign(b) == 0 {
				checkNoDivision(t, c, a, b, api.ErrIntZero)
				continue
			}
			if e != api.OK {
				t.Fatal(e)
			}
			alike(t, c.name, get(bigint.Add(get(bigint.Mul(b, quo)), rem)), a)
			side := bigint.Sign(a)
			if c.name == "DivMod" {
				side = bigint.Sign(b)
			}
			if s := bigint.Sign(rem); s != 0 && s != side || bigint.Cmp(abs(rem), abs(b)) >= 0 {
				t.Errorf("%s of %v, %v: remainder %v", c.name, a, b, rem)
			}
		}
	}
}

func abs(a api.Int) api.Int {
	if bigint.Sign(a) < 0 {
		return bigint.Neg(a)
	}
	return bigint.Norm(a)
}

func TestLawsOfGcdAndPow(t *testing.T) {
	get, d := must(t), dice(29)
	for range 200 {
		a, b := d.integer(10), d.integer(10)
		g := get(bigint.Gcd(a, b))
		if bigint.Sign(g) == 0 {
			continue
		}
		x, restA, _ := bigint.QuoRem(a, g)
		y, restB, _ := bigint.QuoRem(b, g)
		if !isZero(restA) || !isZero(restB) {
			t.Errorf("Gcd(%v, %v) divides not both: %v", a, b, g)
		}
		alike(t, "what is left has nothing in common", get(bigint.Gcd(x, y)), bigint.From(1))
		alike(t, "Pow of a sum", get(bigint.Pow(a, 7)), get(bigint.Mul(get(bigint.Pow(a, 3)), get(bigint.Pow(a, 4)))))
		alike(t, "Shift is Mul by Pow", get(bigint.Shift(a, 70)), get(bigint.Mul(a, get(bigint.Pow(bigint.From(2), 70)))))
		down, _, _ := bigint.DivMod(a, get(bigint.Pow(bigint.From(2), 70)))
		alike(t, "Shift down is DivMod", get(bigint.Shift(a, -70)), down)
	}
}
