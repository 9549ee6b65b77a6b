package lexer_test

import (
	"math"
	"math/big"
	"strconv"
	"strings"
	"testing"

	"hornbeam/api"
)

// Trials are made in their order; what does not fit is left to what follows.
func TestNumbers(t *testing.T) {
	for text, want := range map[string]row{
		"0":            {integer("0", 0, 1), eof(1)},
		"000":          {integer("0", 0, 3), eof(3)},
		"0' ":          {integer("32", 0, 3), eof(3)},
		"0'\t":         {integer("9", 0, 3), eof(3)},
		"0'\x00":       {integer("0", 0, 3), eof(3)},
		"0'\r":         {integer("13", 0, 3), eof(3)},
		"0'\"":         {integer("34", 0, 3), eof(3)},
		"0'`":          {integer("96", 0, 3), eof(3)},
		"0'%":          {integer("37", 0, 3), eof(3)},
		"0'aa":         {integer("97", 0, 3), word(api.TName, "a", 3, 4), eof(4)},
		"0'é":          {integer("233", 0, 4), eof(4)},
		"0'\ufffd":     {integer("65533", 0, 5), eof(5)},
		"0'😀":          {integer("128512", 0, 6), eof(6)},
		"0'''a'":       {integer("39", 0, 4), word(api.TName, "a", 4, 5), wrong(api.ErrLexQuote, 5)},
		"0''''":        {integer("39", 0, 4), wrong(api.ErrLexQuote, 4)},
		"0''a":         {integer("0", 0, 1), word(api.TQuoted, "", 1, 3), word(api.TName, "a", 3, 4), eof(4)},
		"0''":          {integer("0", 0, 1), word(api.TQuoted, "", 1, 3), eof(3)},
		"0'\n'":        {integer("0", 0, 1), wrong(api.ErrLexQuote, 1)},
		"00'a":         {integer("0", 0, 2), wrong(api.ErrLexQuote, 2)},
		"10'a'":        {integer("10", 0, 2), word(api.TQuoted, "a", 2, 5), eof(5)},
		"0 'a'":        {integer("0", 0, 1), spaced(word(api.TQuoted, "a", 2, 5)), eof(5)},
		`0'\'`:         {integer("39", 0, 4), eof(4)},
		`0'\\`:         {integer("92", 0, 4), eof(4)},
		`0'\x41\a`:     {integer("65", 0, 7), word(api.TName, "a", 7, 8), eof(8)},
		`0'\101\`:      {integer("65", 0, 7), eof(7)},
		`0'\0\`:        {integer("0", 0, 5), eof(5)},
		`0'\x10fFfF\`:  {integer("1114111", 0, 11), eof(11)},
		`0'\`:          {wrong(api.ErrLexEscape, 2)},
		"0'\\\n":       {wrong(api.ErrLexEscape, 2)},
		"0'\\\xff":     {wrong(api.ErrLexEscape, 2)},
		`0'\q`:         {wrong(api.ErrLexEscape, 2)},
		`0'\x41`:       {wrong(api.ErrLexEscape, 2)},
		`0'\xd800\`:    {wrong(api.ErrLexEscape, 2)},
		"0'\xff":       {wrong(api.ErrLexByte, 2)},
		"a 0'\xe2\x82": {word(api.TName, "a", 0, 1), wrong(api.ErrLexByte, 4)},
		"0b101":        {integer("5", 0, 5), eof(5)},
		"0b12":         {integer("1", 0, 3), integer("2", 3, 4), eof(4)},
		"0b":           {integer("0", 0, 1), word(api.TName, "b", 1, 2), eof(2)},
		"0o17":         {integer("15", 0, 4), eof(4)},
		"0o78":         {integer("7", 0, 3), integer("8", 3, 4), eof(4)},
		"0o8":          {integer("0", 0, 1), word(api.TName, "o8", 1, 3), eof(3)},
		"0xg":          {integer("0", 0, 1), word(api.TName, "xg", 1, 3), eof(3)},
		"0xaFg":        {integer("175", 0, 4), word(api.TName, "g", 4, 5), eof(5)},
		"0x00":         {integer("0", 0, 4), eof(4)},
		"0X1":          {integer("0", 0, 1), word(api.TVar, "X1", 1, 3), eof(3)},
		"0B1":          {integer("0", 0, 1), word(api.TVar, "B1", 1, 3), eof(3)},
		"0O1":          {integer("0", 0, 1), word(api.TVar, "O1", 1, 3), eof(3)},
		"00x1":         {integer("0", 0, 2), word(api.TName, "x1", 2, 4), eof(4)},
		"1x1":          {integer("1", 0, 1), word(api.TName, "x1", 1, 3), eof(3)},
		"0x1.5":        {integer("1", 0, 3), word(api.TName, ".", 3, 4), integer("5", 4, 5), eof(5)},
		"0b1.0":        {integer("1", 0, 3), word(api.TName, ".", 3, 4), integer("0", 4, 5), eof(5)},
		"0a1":          {integer("0", 0, 1), word(api.TName, "a1", 1, 3), eof(3)},
		"0.5":          {float(0.5, 0, 3), eof(3)},
		"00.5":         {float(0.5, 0, 4), eof(4)},
		"0.0":          {float(0, 0, 3), eof(3)},
		"0.0e9999":     {float(0, 0, 8), eof(8)},
		"1.0e-9999":    {float(0, 0, 9), eof(9)},
		"1.":           {integer("1", 0, 1), end(1), eof(2)},
		"1. 5":         {integer("1", 0, 1), end(1), spaced(integer("5", 3, 4)), eof(4)},
		"1 .5":         {integer("1", 0, 1), spaced(word(api.TName, ".", 2, 3)), integer("5", 3, 4), eof(4)},
		"1.5.6":        {float(1.5, 0, 3), word(api.TName, ".", 3, 4), integer("6", 4, 5), eof(5)},
		"1..5":         {integer("1", 0, 1), word(api.TName, "..", 1, 3), integer("5", 3, 4), eof(4)},
		"1.5e":         {float(1.5, 0, 3), word(api.TName, "e", 3, 4), eof(4)},
		"1.5e+":        {float(1.5, 0, 3), word(api.TName, "e", 3, 4), word(api.TName, "+", 4, 5), eof(5)},
		"1.5E- 3":      {float(1.5, 0, 3), word(api.TVar, "E", 3, 4), word(api.TName, "-", 4, 5), spaced(integer("3", 6, 7)), eof(7)},
		"1.5e--3":      {float(1.5, 0, 3), word(api.TName, "e", 3, 4), word(api.TName, "--", 4, 6), integer("3", 6, 7), eof(7)},
		"1.5E+03":      {float(1500, 0, 7), eof(7)},
		"1.5e-1":       {float(0.15, 0, 6), eof(6)},
		"1.5e3e3":      {float(1500, 0, 5), word(api.TName, "e3", 5, 7), eof(7)},
		"1.5_0":        {float(1.5, 0, 3), word(api.TVar, "_0", 3, 5), eof(5)},
		"1_0":          {integer("1", 0, 1), word(api.TVar, "_0", 1, 3), eof(3)},
		"-1":           {word(api.TName, "-", 0, 1), integer("1", 1, 2), eof(2)},
		" 1.0e309":     {wrong(api.ErrLexNumber, 1)},
	} {
		checkAll(t, text, want)
	}
}

// MaxBits, in each radix.
func TestLongIntegers(t *testing.T) {
	over := new(big.Int).Lsh(big.NewInt(1), 4096)
	most := new(big.Int).Sub(over, big.NewInt(1))
	for prefix, radix := range map[string]int{"": 10, "0b": 2, "0o": 8, "0x": 16} {
		for _, noughts := range []string{"", "0", strings.Repeat("0", 20000)} {
			text := prefix + noughts + most.Text(radix)
			checkAll(t, " "+text, row{spaced(integer(most.String(), 1, 1+len(text))), eof(1 + len(text))})
			checkAll(t, " "+prefix+noughts+over.Text(radix), row{wrong(api.ErrLexNumber, 1)})
		}
		text := prefix + strings.ToUpper(most.Text(radix))
		checkAll(t, text, row{integer(most.String(), 0, len(text)), eof(len(text))})
		checkAll(t, prefix+strings.Repeat("1", 1<<20), row{wrong(api.ErrLexNumber, 0)})
	}
	for bits := uint(0); bits <= 4096; bits += 61 {
		n := new(big.Int).Lsh(big.NewInt(3), bits)
		for prefix, radix := range map[string]int{"": 10, "0b": 2, "0o": 8, "0x": 16} {
			text := prefix + n.Text(radix)
			checkNext(t, text, 0, expected(text, 0))
		}
	}
}

// 400 digits in all ahead of the e, 4 behind it, noughts among them.
func TestLongFloats(t *testing.T) {
	row := func(digit string, n int) string { return strings.Repeat(digit, n) }
	for text, fits := range map[string]bool{
		"0." + row("1", 399):                      true,
		"0." + row("1", 400):                      false,
		row("0", 399) + ".5":                      true,
		row("0", 400) + ".5":                      false,
		row("0", 200) + "." + row("0", 200):       true,
		row("0", 200) + "." + row("0", 201):       false,
		row("1", 309) + "." + row("1", 91):        true,
		row("1", 310) + "." + row("1", 90):        false,
		row("9", 399) + ".0e-300":                 true,
		row("9", 399) + ".0e-99":                  true,
		row("9", 399) + ".0e-90":                  false,
		row("1", 399) + ".00":                     false,
		row("1", 399) + ".00e-300":                false,
		"0." + row("0", 398) + "1e+0399":          true,
		"1.0e0001":                                true,
		"1.0e+0001":                               true,
		"1.0e00001":                               false,
		"1.0e-00000":                              false,
		"1.0e" + row("0", 1<<20):                  false,
		"0.0e9999":                                true,
		"0.0e10000":                               false,
		"1.0e-9999":                               true,
		"1.0e-10000":                              false,
		"1.0e308":                                 true,
		"1.7976931348623157e308":                  true,
		"1.7976931348623158e308":                  true,
		"1.7976931348623159e308":                  false,
		"1.8e308":                                 false,
		"0." + row("0", 1<<20):                    false,
		"0.000179769313486231570814527423731e312": true,
	} {
		want := expected(text, 0)
		if (want.errno == api.OK) != fits {
			t.Errorf("%q is expected to be %v", short(text), want)
		}
		checkNext(t, text, 0, want)
	}
}

// Of two floats as near, the one whose last bit is 0: texts half way between
// neighbours, and a hair to either side.
func TestNearestFloats(t *testing.T) {
	d := &dice{3}
	hair, _ := new(big.Rat).SetString("1e-210")
	for range 2000 {
		bits := uint64(d.next(1<<31))<<31 | uint64(d.next(1<<31))
		low := math.Float64frombits(bits>>1&(1<<52-1) | uint64(1023-150+d.next(300))<<52)
		high := math.Nextafter(low, math.Inf(1))
		half := new(big.Rat).Add(new(big.Rat).SetFloat64(low), new(big.Rat).SetFloat64(high))
		half.Quo(half, big.NewRat(2, 1))
		text := half.FloatString(210)
		even := low
		if math.Float64bits(low)&1 == 1 {
			even = high
		}
		checkNext(t, text, 0, float(even, 0, len(text)))
		checkNext(t, text+"1", 0, float(high, 0, len(text)+1))
		less := half.Sub(half, hair).FloatString(210)
		checkNext(t, less, 0, float(low, 0, len(less)))
	}
	for text, want := range map[string]float64{"4.9e-324": math.SmallestNonzeroFloat64, "2.4e-324": 0, "2.5e-324": math.SmallestNonzeroFloat64, "9007199254740993.0": 9007199254740992, "9007199254740995.0": 9007199254740996, "9007199254740993.0000001": 9007199254740994, "2.2250738585072011e-308": 2.225073858507201e-308} {
		checkNext(t, text, 0, float(want, 0, len(text)))
	}
	for range 5000 {
		value := math.Float64frombits(uint64(d.next(1<<31))<<32 | uint64(d.next(1<<31))<<1)
		text := strconv.FormatFloat(value, 'e', -1, 64)
		if strings.Contains(text, ".") {
			checkNext(t, text, 0, float(value, 0, len(text)))
		}
	}
}
