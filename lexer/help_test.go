package lexer_test

import (
	"fmt"
	"math"
	"strings"
	"testing"

	"hornbeam/api"
	"hornbeam/lexer"
)

// row is what a text's tokens are, the last of them perhaps an error.
type row []told

// told is what Next tells.
type told struct {
	token api.Token
	errno api.Errno
}

func word(kind int, text string, at, end int) told {
	return told{api.Token{Kind: kind, Text: text, At: at, End: end}, api.OK}
}

func integer(num string, at, end int) told {
	return told{api.Token{Kind: api.TInt, Num: num, At: at, End: end}, api.OK}
}

func float(f float64, at, end int) told {
	return told{api.Token{Kind: api.TFloat, Bits: math.Float64bits(f), At: at, End: end}, api.OK}
}

func end(at int) told { return word(api.TEnd, "", at, at+1) }

func eof(at int) told { return word(api.TEof, "", at, at) }

func wrong(errno api.Errno, at int) told {
	return told{api.Token{At: at, End: at}, errno}
}

// spaced is what is told with layout ahead.
func spaced(w told) told {
	w.token.Layout = true
	return w
}

func next(text string, at int) told {
	token, errno := lexer.Next(text, at)
	return told{token, errno}
}

// all is what All tells, cut where it should have ended.
func all(text string) row {
	var out row
	for token, errno := range lexer.All(text) {
		out = append(out, told{token, errno})
		if len(out) > len(text)+1 {
			break
		}
	}
	return out
}

func (w told) String() string {
	k := w.token
	s := fmt.Sprintf("%d at %d to %d", k.Kind, k.At, k.End)
	if k.Layout {
		s += " behind layout"
	}
	if k.Text != "" || k.Num != "" {
		s += fmt.Sprintf(" %q", short(k.Text+k.Num))
	}
	if k.Bits != 0 {
		s += fmt.Sprintf(" %g", math.Float64frombits(k.Bits))
	}
	return fmt.Sprintf("(%s, error %d)", s, int(w.errno))
}

func short(text string) string {
	if len(text) > 60 {
		return fmt.Sprintf("%s.. (%d bytes)", text[:50], len(text))
	}
	return text
}

// checkNext looks at a token, and at the same one far behind a text's
// beginning, where all is the same but its place.
func checkNext(t *testing.T, text string, at int, want told) {
	t.Helper()
	if got := next(text, at); got != want {
		t.Errorf("Next(%q, %d) tells %v, not %v", short(text), at, got, want)
	}
	if want.errno == api.ErrLexPlace {
		return
	}
	const ahead = 5000
	want.token.At += ahead
	want.token.End += ahead
	if got := next(strings.Repeat("'", ahead)+text, ahead+at); got != want {
		t.Errorf("Next(%q, %d) far behind the beginning tells %v, not %v", short(text), at, got, want)
	}
}

// checkAll looks at All, and at Next of each place that it goes on from.
func checkAll(t *testing.T, text string, want row) {
	t.Helper()
	got := all(text)
	at := 0
	for i := range max(len(got), len(want)) {
		switch {
		case i >= len(got):
			t.Errorf("All(%q) does not tell %v", short(text), want[i])
			return
		case i >= len(want) || got[i] != want[i]:
			t.Errorf("All(%q) tells as token %d %v, not %v", short(text), i, got[i], want[i:min(i+1, len(want))])
			return
		}
		checkNext(t, text, at, want[i])
		at = want[i].token.End
	}
}

// texts goes through all texts of some parts, up to a number of them.
func texts(parts []string, most int) func(yield func(string) bool) {
	return func(yield func(string) bool) {
		var extend func(text string, more int) bool
		extend = func(text string, more int) bool {
			if !yield(text) {
				return false
			}
			for _, part := range parts {
				if more > 0 && !extend(text+part, more-1) {
					return false
				}
			}
			return true
		}
		extend("", most)
	}
}

func split(parts string) []string { return strings.Split(parts, " ") }

// dice throws numbers by a rule of its own, the same ones each time.
type dice struct{ state uint64 }

func (d *dice) next(n int) int {
	d.state = d.state*6364136223846793005 + 1442695040888963407
	return int(d.state>>33) % n
}
