package vfs_test

import (
	"math"
	"strings"
	"testing"

	"hornbeam/api"
)

// P8.6: what is read is not written, and neither kind does what the other one
// does; these are said ahead of what is wrong with what is put.
func TestPutOnOtherStreams(t *testing.T) {
	v := mixed(t)
	was := whole(v)
	for _, data := range []string{"", "a", "\xff", text(api.MaxOut + 1)} {
		for _, id := range []int{0, 2, 3} {
			check(t, "Put", v.Put(id, data), mayNot("output", "stream", id))
		}
		check(t, "Put", v.Put(5, data), mayNot("output", "binary_stream", 5))
	}
	for _, b := range []int{0, 7, 256, -1} {
		for _, id := range []int{0, 2, 3} {
			check(t, "PutByte", v.PutByte(id, b), mayNot("output", "stream", id))
		}
		for _, id := range []int{1, 4} {
			check(t, "PutByte", v.PutByte(id, b), mayNot("output", "text_stream", id))
		}
	}
	if whole(v) != was {
		t.Errorf("it is changed")
	}
}

// P8.6: characters, and what is none.
func TestPut(t *testing.T) {
	v := with(t, "", "b", "old\n")
	id := open(t, v, "b", api.ModeAppend, none)
	want := "old\n"
	for _, c := range []struct {
		data string
		line int
	}{{"a", 2}, {"", 2}, {"\u00e9\n", 3}, {"\x00\ufffd\U0010ffff", 3}, {"\n\n", 5}} {
		want += c.data
		check(t, "Put", v.Put(id, c.data), "")
		checkFiles(t, v, "b", want)
		checkPlace(t, v, id, len(want), c.line, api.EndNot)
		for _, bad := range []string{"\xff", "ok\xc3", "\xed\xa0\x80", "\xc3\xa9\xa9", "\xe2\x82"} {
			check(t, "Put", v.Put(id, bad), noCharacter)
			check(t, "Put", v.Put(1, bad), noCharacter)
		}
		checkFiles(t, v, "b", want)
	}
	if v.Out() != "" {
		t.Errorf("%q", v.Out())
	}
}

// P8.6: each byte, and what is none.
func TestPutByte(t *testing.T) {
	v := with(t, "")
	id := open(t, v, "b", api.ModeWrite, bytes)
	var want []byte
	for b := range 256 {
		check(t, "PutByte", v.PutByte(id, b), "")
		want = append(want, byte(b))
	}
	for _, b := range []int{-1, 256, 257, 65536 + 7, math.MinInt, math.MaxInt} {
		check(t, "PutByte", v.PutByte(id, b), "error 83")
	}
	checkFiles(t, v, "b", string(want))
	checkPlace(t, v, id, 256, 2, api.EndNot)
}

// P8.6: a file has no more than it may have, whoever put it there.
func TestPutTooMuchOnAFile(t *testing.T) {
	v := with(t, "", "a", text(api.MaxText-3), "b", text(api.MaxText-1))
	id := open(t, v, "a", api.ModeAppend, none)
	check(t, "Put", v.Put(id, "1234"), resource("file"))
	check(t, "Put", v.Put(id, "1\u00e9\n"), resource("file"))
	check(t, "Put", v.Put(id, "1\u00e9"), "")
	check(t, "Put", v.Put(id, ""), "")
	check(t, "Put", v.Put(id, "1"), resource("file"))
	checkPlace(t, v, id, api.MaxText, 1, api.EndNot)
	binary := open(t, v, "b", api.ModeAppend, bytes)
	check(t, "PutByte", v.PutByte(binary, 10), "")
	check(t, "PutByte", v.PutByte(binary, 10), resource("file"))
	checkPlace(t, v, binary, api.MaxText, 2, api.EndNot)
	checkFiles(t, v, "a", text(api.MaxText-3)+"1\u00e9", "b", text(api.MaxText-1)+"\n")
	fresh := open(t, v, "c", api.ModeWrite, none)
	check(t, "Put", v.Put(fresh, text(api.MaxText+1)), resource("file"))
	check(t, "Put", v.Put(fresh, text(api.MaxText)), "")
}

// P8.6: user_output may have more than a file, up to all that may be written.
func TestPutOnUserOutput(t *testing.T) {
	v := with(t, "")
	check(t, "Put", v.Put(1, text(api.MaxOut+1)), resource("output"))
	check(t, "Put", v.Put(1, text(api.MaxText+1)), "")
	check(t, "Put", v.Put(1, text(api.MaxOut-api.MaxText)), resource("output"))
	check(t, "Put", v.Put(1, text(api.MaxOut-api.MaxText-1)), "")
	check(t, "Put", v.Put(1, ""), "")
	check(t, "Put", v.Put(1, "x"), resource("output"))
	if v.Out() != text(api.MaxOut) {
		t.Errorf("%d bytes", len(v.Out()))
	}
	checkPlace(t, v, 1, api.MaxOut, 1, api.EndNot)
	id := open(t, v, "a", api.ModeWrite, bytes)
	check(t, "PutByte", v.PutByte(id, 1), resource("output"))
	checkFiles(t, v, "a", "")
}

// P8.6: all that was written counts, on whatever streams, closed ones and
// files that were emptied too; what was refused, and what was there at first,
// does not.
func TestPutTooMuchInAll(t *testing.T) {
	v := with(t, "", "a", text(api.MaxText))
	for range 4 {
		id := open(t, v, "b", api.ModeWrite, none)
		check(t, "Put", v.Put(id, text(api.MaxText)), "")
		check(t, "Put", v.Put(id, "x"), resource("file"))
		check(t, "Put", v.Put(id, "\xff"), noCharacter)
		check(t, "Close", v.Close(id), "")
	}
	id := open(t, v, "c", api.ModeAppend, bytes)
	for range 10000 {
		if err := v.PutByte(id, 'x'); err != nil {
			t.Fatal(said(err))
		}
	}
	check(t, "Put", v.Put(1, text(9999)), "")
	full := open(t, v, "a", api.ModeAppend, bytes)
	check(t, "PutByte", v.PutByte(full, 1), resource("file"))
	last := open(t, v, "d", api.ModeAppend, none)
	check(t, "Put", v.Put(last, "xy"), resource("output"))
	check(t, "Put", v.Put(last, "\u00e9"), resource("output"))
	check(t, "Put", v.Put(last, "x"), "")
	check(t, "Put", v.Put(last, "x"), resource("output"))
	check(t, "PutByte", v.PutByte(full, 1), resource("output"))
	check(t, "PutByte", v.PutByte(id, 256), "error 83")
	check(t, "Put", v.Put(last, "\xff"), noCharacter)
	check(t, "Put", v.Put(last, ""), "")
	checkFiles(t, v, "a", text(api.MaxText), "b", text(api.MaxText), "c", strings.Repeat("x", 10000), "d", "x")
}
