package vfs_test

import (
	"math"
	"testing"
	"unicode/utf8"

	"hornbeam/api"
	"hornbeam/vfs"
)

// P8.4: the chapter's example.
func TestReadsOfTheExample(t *testing.T) {
	v := with(t, "hi", "a", "x\n\u00e9", "b", "")
	id := open(t, v, "a", api.ModeRead, once)
	for _, c := range []struct {
		peek bool
		want int
	}{{false, 120}, {false, 10}, {true, 233}, {false, 233}, {true, -1}, {false, -1}} {
		checkRead(t, "Char", v.Char, id, c.peek, c.want, "")
	}
	checkRead(t, "Char", v.Char, id, false, 0, mayNot("input", "past_end_of_stream", 2))
	for _, want := range []int{104, 105, -1, -1} {
		checkRead(t, "Char", v.Char, 0, false, want, "")
	}
	checkRead(t, "Char", v.Char, 1, false, 0, mayNot("input", "stream", 1))
}

// P8.4, P8.5: what is written is not read, and neither kind does what the other
// one does.
func TestReadsOfOtherStreams(t *testing.T) {
	v := mixed(t)
	was := whole(v)
	for _, peek := range []bool{false, true} {
		for _, id := range []int{1, 4, 5} {
			checkRead(t, "Char", v.Char, id, peek, 0, mayNot("input", "stream", id))
			checkRead(t, "Byte", v.Byte, id, peek, 0, mayNot("input", "stream", id))
		}
		checkRead(t, "Char", v.Char, 3, peek, 0, mayNot("input", "binary_stream", 3))
		checkRead(t, "Byte", v.Byte, 2, peek, 0, mayNot("input", "text_stream", 2))
		checkRead(t, "Byte", v.Byte, 0, peek, 0, mayNot("input", "text_stream", 0))
	}
	for _, id := range []int{1, 4, 5} {
		checkSource(t, v, id, "", 0, mayNot("input", "stream", id))
		check(t, "Advance", v.Advance(id, -1), mayNot("input", "stream", id))
	}
	checkSource(t, v, 3, "", 0, mayNot("input", "binary_stream", 3))
	check(t, "Advance", v.Advance(3, 0), mayNot("input", "binary_stream", 3))
	check(t, "Advance", v.Advance(3, -1), mayNot("input", "binary_stream", 3))
	if whole(v) != was {
		t.Errorf("it is changed")
	}
}

// P8.4: characters of each length, each byte of a binary stream; where it
// stands then.
func TestReadsAndPlaces(t *testing.T) {
	data := "a\n\x00\u007f\u0080\u07ff\u0800\ufffd\uffff\U00010000\n\U0010ffff\n"
	v := with(t, "", "a", data, "b", "\n\xff\x00\n\x80")
	id := open(t, v, "a", api.ModeRead, none)
	pos, line := 0, 1
	for _, char := range data {
		checkPlace(t, v, id, pos, line, api.EndNot)
		checkReads(t, "Char", v.Char, id, int(char))
		pos += utf8.RuneLen(char)
		if char == '\n' {
			line++
		}
	}
	checkPlace(t, v, id, len(data), 4, api.EndAt)
	id = open(t, v, "b", api.ModeRead, bytes)
	for i, b := range []int{10, 255, 0, 10, 128} {
		checkPlace(t, v, id, i, []int{1, 2, 2, 2, 3}[i], api.EndNot)
		checkReads(t, "Byte", v.Byte, id, b)
	}
	checkPlace(t, v, id, 5, 3, api.EndAt)
}

// P8.4: every byte, of a binary stream.
func TestEachByte(t *testing.T) {
	var data []byte
	for b := range 256 {
		data = append(data, byte(b))
	}
	v := with(t, "", "a", string(data))
	id := open(t, v, "a", api.ModeRead, bytes)
	for b := range 256 {
		checkReads(t, "Byte", v.Byte, id, b)
	}
	checkReads(t, "Byte", v.Byte, id, -1)
}

// ends reads the end of what is at it, and tells what is said once it was read.
func ends(t *testing.T, v *vfs.FS, what string, read func(id int, peek bool) (int, error), id, eof int) {
	t.Helper()
	s, _ := v.Stream(id)
	for range 2 {
		checkRead(t, what, read, id, true, -1, "")
		checkPlace(t, v, id, s.Pos, s.Line, api.EndAt)
	}
	checkRead(t, what, read, id, false, -1, "")
	checkPlace(t, v, id, s.Pos, s.Line, api.EndPast)
	for _, peek := range []bool{true, false, true, false} {
		if eof == api.EofError {
			checkRead(t, what, read, id, peek, 0, mayNot("input", "past_end_of_stream", id))
		} else {
			checkRead(t, what, read, id, peek, -1, "")
		}
		checkPlace(t, v, id, s.Pos, s.Line, api.EndPast)
	}
}

// P8.4: the end, and what is behind it, by what was asked for.
func TestEnds(t *testing.T) {
	for _, eof := range []int{api.EofError, api.EofCode, api.EofReset, 0, -1, 4, math.MinInt, math.MaxInt} {
		v := with(t, "", "a", "\n", "b", "")
		text := open(t, v, "a", api.ModeRead, api.StreamOptions{Eof: eof})
		checkReads(t, "Char", v.Char, text, '\n')
		ends(t, v, "Char", v.Char, text, eof)
		binary := open(t, v, "a", api.ModeRead, api.StreamOptions{Eof: eof, Binary: true})
		checkReads(t, "Byte", v.Byte, binary, '\n')
		ends(t, v, "Byte", v.Byte, binary, eof)
		ends(t, v, "Char", v.Char, open(t, v, "b", api.ModeRead, api.StreamOptions{Eof: eof}), eof)
		ends(t, v, "Byte", v.Byte, open(t, v, "b", api.ModeRead, api.StreamOptions{Eof: eof, Binary: true}), eof)
	}
}

// P8.4: what one kind does not do is said ahead of the end.
func TestOtherKindBehindTheEnd(t *testing.T) {
	v := with(t, "", "a", "")
	text := open(t, v, "a", api.ModeRead, once)
	binary := open(t, v, "a", api.ModeRead, api.StreamOptions{Eof: api.EofError, Binary: true})
	checkReads(t, "Char", v.Char, text, -1)
	checkReads(t, "Byte", v.Byte, binary, -1)
	checkRead(t, "Byte", v.Byte, text, false, 0, mayNot("input", "text_stream", text))
	checkRead(t, "Char", v.Char, binary, false, 0, mayNot("input", "binary_stream", binary))
	checkSource(t, v, binary, "", 0, mayNot("input", "binary_stream", binary))
	check(t, "Advance", v.Advance(binary, 0), mayNot("input", "binary_stream", binary))
}

// P8.4: what is no whole character; it stays there.
func TestNoCharacters(t *testing.T) {
	for _, bad := range []string{
		"\xff", "\x80", "\xbf", "\xc3", "\xc0\x80", "\xc1\xbf", "\xe0\x80\x80", "\xe2\x82", "\xe2", "\xed\xa0\x80", "\xed\xbf\xbf",
		"\xf0\x80\x80\x80", "\xf0\x90\x80", "\xf4\x90\x80\x80", "\xf5\x80\x80\x80", "\xc3\xc3\xa9", "\xffabc", "\x80\x80\x80", "\x80\x80", "\xe2\x82x", "\xef\xbf",
	} {
		v := with(t, bad, "a", "\n"+bad)
		id := open(t, v, "a", api.ModeRead, once)
		checkReads(t, "Char", v.Char, id, '\n')
		for _, peek := range []bool{true, false, false} {
			checkRead(t, "Char", v.Char, id, peek, 0, noCharacter)
			checkPlace(t, v, id, 1, 2, api.EndNot)
			checkRead(t, "Char", v.Char, 0, peek, 0, noCharacter)
			checkPlace(t, v, 0, 0, 1, api.EndNot)
		}
		checkSource(t, v, id, "\n"+bad, 1, "")
	}
}

// P8.4: each character, and each number of none written as one, is told so.
func TestEachCharacter(t *testing.T) {
	for from := 0; from <= utf8.MaxRune; from += 997 {
		char := rune(from)
		v := with(t, string(char)+"\n")
		if !utf8.ValidRune(char) {
			char = utf8.RuneError
		}
		checkReads(t, "Char", v.Char, 0, int(char), '\n', -1)
	}
}

// P8.5: all of a file's text, wherever it stands.
func TestSource(t *testing.T) {
	data := "ab\n\u00e9\n"
	v := with(t, "input", "a", data)
	id := open(t, v, "a", api.ModeRead, none)
	checkSource(t, v, id, data, 0, "")
	checkReads(t, "Char", v.Char, id, 'a')
	checkSource(t, v, id, data, 1, "")
	checkReads(t, "Char", v.Char, id, 'b', '\n', 0xe9)
	was := whole(v)
	checkSource(t, v, id, data, 5, "")
	checkSource(t, v, 0, "input", 0, "")
	if whole(v) != was {
		t.Errorf("Source changes what is told")
	}
	checkReads(t, "Char", v.Char, id, '\n')
	checkSource(t, v, id, data, 6, "")
	checkReads(t, "Char", v.Char, id, -1)
	checkSource(t, v, id, data, 6, "")
}

// P8.5: Source and Advance behind the end, by what was asked for.
func TestSourceBehindTheEnd(t *testing.T) {
	for _, eof := range []int{api.EofError, api.EofCode, api.EofReset, 0, 7} {
		v := with(t, "", "a", "x")
		id := open(t, v, "a", api.ModeRead, api.StreamOptions{Eof: eof})
		checkReads(t, "Char", v.Char, id, 'x', -1)
		for range 2 {
			if eof == api.EofError {
				past := mayNot("input", "past_end_of_stream", id)
				checkSource(t, v, id, "", 0, past)
				check(t, "Advance", v.Advance(id, 1), past)
				check(t, "Advance", v.Advance(id, 9), past)
			} else {
				checkSource(t, v, id, "x", 1, "")
				check(t, "Advance", v.Advance(id, 1), "")
				check(t, "Advance", v.Advance(id, 0), "error 1")
			}
			checkPlace(t, v, id, 1, 1, api.EndPast)
		}
	}
}

// P8.5: Advance goes on, and not back; at the end it reads the end.
func TestAdvance(t *testing.T) {
	v := with(t, "x\ny", "a", "ab\n\u00e9\n\n")
	id := open(t, v, "a", api.ModeRead, once)
	for _, c := range []struct{ to, line, end int }{{0, 1, api.EndNot}, {1, 1, api.EndNot}, {1, 1, api.EndNot}, {3, 2, api.EndNot}, {4, 2, api.EndNot}, {6, 3, api.EndNot}} {
		check(t, "Advance", v.Advance(id, c.to), "")
		checkPlace(t, v, id, c.to, c.line, c.end)
	}
	for _, to := range []int{-1, 0, 5, 8, math.MinInt, math.MaxInt} {
		check(t, "Advance", v.Advance(id, to), "error 1")
		checkPlace(t, v, id, 6, 3, api.EndNot)
	}
	check(t, "Advance", v.Advance(id, 7), "")
	checkPlace(t, v, id, 7, 4, api.EndAt)
	for _, to := range []int{6, 8, -1} {
		check(t, "Advance", v.Advance(id, to), "error 1")
		checkPlace(t, v, id, 7, 4, api.EndAt)
	}
	check(t, "Advance", v.Advance(id, 7), "")
	checkPlace(t, v, id, 7, 4, api.EndPast)
	check(t, "Advance", v.Advance(id, 7), mayNot("input", "past_end_of_stream", id))
	check(t, "Advance", v.Advance(0, 3), "")
	checkPlace(t, v, 0, 3, 2, api.EndAt)
	v = with(t, "")
	check(t, "Advance", v.Advance(0, 0), "")
	checkPlace(t, v, 0, 0, 1, api.EndPast)
}

// P8.7: places that may be set, of both kinds.
func TestSeek(t *testing.T) {
	data := "a\n\u00e9\n"
	v := with(t, "", "a", data)
	text := open(t, v, "a", api.ModeRead, api.StreamOptions{Reposition: true, Eof: api.EofError})
	binary := open(t, v, "a", api.ModeRead, api.StreamOptions{Reposition: true, Eof: api.EofError, Binary: true})
	lines := []int{1, 1, 2, 2, 2, 3}
	for _, id := range []int{text, binary} {
		for _, from := range []int{0, 1, 2, 3, 4, 5} {
			for pos, line := range lines {
				check(t, "Seek", v.Seek(id, from), "")
				check(t, "Seek", v.Seek(id, pos), "")
				end := api.EndNot
				if pos == len(data) {
					end = api.EndAt
				}
				checkPlace(t, v, id, pos, line, end)
			}
		}
		check(t, "Seek", v.Seek(id, 1), "")
		for _, pos := range []int{-1, 6, 20000, math.MinInt, math.MaxInt} {
			check(t, "Seek", v.Seek(id, pos), noPlace(pos))
			checkPlace(t, v, id, 1, 1, api.EndNot)
		}
	}
	checkReads(t, "Char", v.Char, text, '\n', 0xe9, '\n', -1)
	check(t, "Seek", v.Seek(text, 3), "")
	checkRead(t, "Char", v.Char, text, false, 0, noCharacter)
	check(t, "Seek", v.Seek(binary, 3), "")
	checkReads(t, "Byte", v.Byte, binary, 0xa9, '\n', -1)
}

// P8.7: a place is set behind the end too, and then it is read again.
func TestSeekBehindTheEnd(t *testing.T) {
	v := with(t, "", "a", "x")
	id := open(t, v, "a", api.ModeRead, api.StreamOptions{Reposition: true, Eof: api.EofError})
	for _, pos := range []int{1, 0, 1} {
		check(t, "Seek", v.Seek(id, 1), "")
		checkReads(t, "Char", v.Char, id, -1)
		check(t, "Seek", v.Seek(id, 2), noPlace(2))
		checkPlace(t, v, id, 1, 1, api.EndPast)
		check(t, "Seek", v.Seek(id, pos), "")
		checkPlace(t, v, id, pos, 1, pos)
	}
	checkReads(t, "Char", v.Char, id, -1)
}

// P8.7: without being asked for at first no place is set, whatever it is.
func TestSeekOfOtherStreams(t *testing.T) {
	v := with(t, "in", "a", "x", "b", "y")
	read := open(t, v, "a", api.ModeRead, none)
	written := open(t, v, "b", api.ModeAppend, bytes)
	was := whole(v)
	for _, id := range []int{0, 1, read, written} {
		for _, pos := range []int{0, 1, -1, 99} {
			check(t, "Seek", v.Seek(id, pos), mayNot("reposition", "stream", id))
		}
	}
	if whole(v) != was {
		t.Errorf("it is changed")
	}
}
