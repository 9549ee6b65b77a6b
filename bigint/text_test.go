package bigint_test

import (
	"math"
	"math/big"
	"strings"
	"testing"

	"hornbeam/api"
	"hornbeam/bigint"
)

// P1.6.
func TestParse(t *testing.T) {
	for _, c := range []struct {
		s     string
		radix int
		want  string
	}{
		{"-00ff", 16, "-255"}, {"0", 10, "0"}, {"-0", 10, "0"}, {"-000", 2, "0"}, {"00012", 10, "12"},
		{"zZ", 36, "1295"}, {"-Zz", 36, "-1295"}, {"aBcDeF", 16, "0xabcdef"}, {"AbCdEf", 16, "0xabcdef"},
		{"1011", 2, "11"}, {"4294967295", 10, "4294967295"}, {"4294967296", 10, "4294967296"},
		{"18446744073709551616", 10, "18446744073709551616"}, {"-1000000000", 10, "-1000000000"},
		{"100000000000000000000000000000000000001", 10, "100000000000000000000000000000000000001"},
		{"80000000000000000", 16, "0x80000000000000000"},
	} {
		got, e := bigint.Parse(c.s, c.radix)
		check(t, c.s, got, e, bigOf(read(c.want)))
	}
}

func TestParseOfWrongTexts(t *testing.T) {
	for _, c := range []struct {
		s     string
		radix int
	}{
		{"", 10}, {"-", 10}, {"--1", 10}, {"+1", 10}, {"1-", 10}, {" 1", 10}, {"1 ", 10}, {"1_000", 10}, {"0x10", 16}, {"1.0", 10}, {"1e3", 10},
		{"2", 2}, {"12", 2}, {"a", 10}, {"A", 10}, {"g", 16}, {"G", 16}, {"z", 35}, {"Z", 35}, {"9", 9}, {"00-1", 10},
		{"/", 36}, {":", 36}, {"@", 36}, {"[", 36}, {"`", 36}, {"{", 36}, {"\x00", 10}, {"\xff", 10}, {"é", 36}, {"１", 10}, {"1\n", 10},
		{strings.Repeat("9", 5000) + "x", 10}, {"-" + strings.Repeat("1", 100000) + "-", 2},
	} {
		got, e := bigint.Parse(c.s, c.radix)
		checkError(t, c.s[:min(len(c.s), 9)], got, e, api.ErrIntText)
	}
}

func TestRadixThatMayNotBe(t *testing.T) {
	for _, radix := range []int{37, 1, 0, -1, -10, 100, 1 << 32, 1<<32 + 10, math.MaxInt, math.MinInt} {
		for _, s := range []string{"1", "", "+", strings.Repeat("1", 5000)} {
			got, e := bigint.Parse(s, radix)
			checkError(t, "Parse", got, e, api.ErrIntRadix)
		}
		for _, a := range []api.Int{{}, power(0, 0), minus(power(4096, -1))} {
			if s, e := bigint.Text(a, radix); s != "" || e != api.ErrIntRadix {
				t.Errorf("Text in %d: %s, %v", radix, s, e)
			}
		}
	}
}

func TestParseAtTheLimit(t *testing.T) {
	for radix := 2; radix <= 36; radix++ {
		most := bigOf(power(4096, -1)).Text(radix)
		more := bigOf(power(4096, 0)).Text(radix)
		for _, ahead := range []string{"", "-", "0", "-" + strings.Repeat("0", 20000)} {
			got, e := bigint.Parse(ahead+most, radix)
			if e != api.OK || bigint.Bits(got) != 4096 || got.Neg != strings.HasPrefix(ahead, "-") {
				t.Errorf("radix %d: the longest: %v", radix, e)
			}
			got, e = bigint.Parse(ahead+more, radix)
			checkError(t, "one more", got, e, api.ErrIntLong)
			got, e = bigint.Parse(ahead+more+strings.Repeat("1", 100000), radix)
			checkError(t, "many more", got, e, api.ErrIntLong)
		}
	}
}

// P1.6, P1.8: Text, and back by Parse, of small and of great letters.
func TestTextAndParseLeadBack(t *testing.T) {
	for _, a := range pool() {
		for _, radix := range []int{2, 3, 7, 8, 10, 16, 31, 32, 35, 36} {
			want := bigOf(a).Text(radix)
			s, e := bigint.Text(a, radix)
			if s != want || e != api.OK {
				t.Errorf("Text in %d: %s, %v; want %s", radix, s, e, want)
			}
			for _, form := range []string{s, strings.ToUpper(s)} {
				back, e := bigint.Parse(form, radix)
				check(t, form, back, e, bigOf(a))
			}
		}
	}
}

func TestTextOfMany(t *testing.T) {
	d := dice(5)
	for radix := 2; radix <= 36; radix++ {
		for range 60 {
			a := d.integer(6)
			want := bigOf(a).Text(radix)
			if s, e := bigint.Text(a, radix); s != want || e != api.OK {
				t.Errorf("Text in %d: %s, %v; want %s", radix, s, e, want)
			}
			got, e := bigint.Parse(want, radix)
			check(t, want, got, e, bigOf(a))
		}
	}
	ten := big.NewInt(10)
	for n := range int64(40) {
		b := new(big.Int).Exp(ten, big.NewInt(n), nil)
		if s, e := bigint.Text(minus(intOf(b)), 10); s != "-"+b.String() || e != api.OK {
			t.Errorf("10^%d: %s, %v", n, s, e)
		}
	}
}

func TestTextsThatAreTold(t *testing.T) {
	for _, c := range []struct {
		a     api.Int
		radix int
		want  string
	}{
		{read("-255"), 16, "-ff"}, {api.Int{}, 10, "0"}, {api.Int{Neg: true, Mag: []uint32{0, 0}}, 2, "0"}, {read("35"), 36, "z"}, {read("-1296"), 36, "-100"}, {loose(read("1000000000")), 10, "1000000000"},
	} {
		if s, e := bigint.Text(c.a, c.radix); s != c.want || e != api.OK {
			t.Errorf("Text: %s, %v; want %s", s, e, c.want)
		}
	}
}
