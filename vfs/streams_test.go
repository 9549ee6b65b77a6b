package vfs_test

import (
	"math"
	"slices"
	"strconv"
	"testing"

	"hornbeam/api"
	"hornbeam/vfs"
)

// mixed is one with a stream of each way and kind: 2 reads characters, 3 bytes,
// 4 writes characters, 5 bytes; 6 was closed.
func mixed(t *testing.T) *vfs.FS {
	t.Helper()
	v := with(t, "in", "a", "x\n\u00e9", "b", "y", "c", "z")
	open(t, v, "a", api.ModeRead, api.StreamOptions{Alias: "r", Reposition: true})
	open(t, v, "a", api.ModeRead, api.StreamOptions{Binary: true, Reposition: true})
	open(t, v, "b", api.ModeWrite, api.StreamOptions{Alias: "w"})
	open(t, v, "c", api.ModeAppend, bytes)
	check(t, "Close", v.Close(open(t, v, "a", api.ModeRead, api.StreamOptions{Alias: "gone"})), "")
	return v
}

// calls are all that answer an error about a stream, each with good arguments.
func calls(v *vfs.FS, id int) map[string]error {
	char, e1 := v.Char(id, false)
	peeked, e2 := v.Char(id, true)
	b, e3 := v.Byte(id, false)
	peekedByte, e4 := v.Byte(id, true)
	data, pos, e5 := v.Source(id)
	if char != 0 || peeked != 0 || b != 0 || peekedByte != 0 || data != "" || pos != 0 {
		return map[string]error{"something beside an error": nil}
	}
	return map[string]error{
		"Char": e1, "Char that peeks": e2, "Byte": e3, "Byte that peeks": e4, "Source": e5,
		"Advance": v.Advance(id, 0), "Put": v.Put(id, "a"), "PutByte": v.PutByte(id, 1), "Seek": v.Seek(id, 0),
		"Close": v.Close(id), "SetInput": v.SetInput(id), "SetOutput": v.SetOutput(id),
	}
}

// P8.3: a number of no open stream, ahead of all else.
func TestNoStream(t *testing.T) {
	v := mixed(t)
	was := whole(v)
	for _, id := range append(noNumbers(), 6, 7) {
		for what, err := range calls(v, id) {
			check(t, what, err, missing(id))
		}
		check(t, "Put", v.Put(id, "\xff"), missing(id))
		check(t, "PutByte", v.PutByte(id, 256), missing(id))
		check(t, "Seek", v.Seek(id, -1), missing(id))
		check(t, "Advance", v.Advance(id, -1), missing(id))
		if s, is := v.Stream(id); is || s != (api.Stream{}) {
			t.Errorf("Stream(%d): %v, %v", id, s, is)
		}
	}
	if whole(v) != was {
		t.Errorf("it is changed")
	}
}

// P8.3: what is closed is gone, but for the two streams.
func TestClose(t *testing.T) {
	v := mixed(t)
	was := whole(v)
	for _, id := range []int{0, 1, 0, 1} {
		check(t, "Close", v.Close(id), "")
	}
	if whole(v) != was {
		t.Errorf("the two streams do not stay")
	}
	for i, id := range []int{3, 5, 2, 4} {
		check(t, "Close", v.Close(id), "")
		check(t, "Close", v.Close(id), missing(id))
		if _, is := v.Stream(id); is || len(v.Streams()) != 5-i {
			t.Errorf("%d is there still", id)
		}
	}
	if l := v.Streams(); !slices.Equal(l, []int{0, 1}) {
		t.Errorf("%v", l)
	}
}

// P8.3: what was current is the one that is always there, once it is closed;
// closing another one changes nothing of it.
func TestCloseOfTheCurrentOnes(t *testing.T) {
	v := mixed(t)
	check(t, "SetInput", v.SetInput(3), "")
	check(t, "SetOutput", v.SetOutput(5), "")
	for _, c := range []struct{ id, in, out int }{{2, 3, 5}, {4, 3, 5}, {0, 3, 5}, {1, 3, 5}, {3, 0, 5}, {5, 0, 1}} {
		check(t, "Close", v.Close(c.id), "")
		if v.Input() != c.in || v.Output() != c.out {
			t.Errorf("Close(%d): %d, %d", c.id, v.Input(), v.Output())
		}
	}
}

// P8.3: only what is read becomes the input, only what is written the output.
func TestSetInputAndOutput(t *testing.T) {
	v := mixed(t)
	for _, id := range []int{2, 3, 0} {
		check(t, "SetInput", v.SetInput(id), "")
		check(t, "SetOutput", v.SetOutput(id), mayNot("output", "stream", id))
		if v.Input() != id || v.Output() != 1 {
			t.Errorf("%d: %d, %d", id, v.Input(), v.Output())
		}
	}
	for _, id := range []int{4, 5, 1} {
		check(t, "SetOutput", v.SetOutput(id), "")
		check(t, "SetInput", v.SetInput(id), mayNot("input", "stream", id))
		if v.Input() != 0 || v.Output() != id {
			t.Errorf("%d: %d, %d", id, v.Input(), v.Output())
		}
	}
}

// P8.8: aliases of open streams, and no others.
func TestFind(t *testing.T) {
	v := mixed(t)
	for alias, want := range map[string]int{"user_input": 0, "user_output": 1, "r": 2, "w": 4} {
		if id, is := v.Find(alias); id != want || !is {
			t.Errorf("Find(%q): %d, %v", alias, id, is)
		}
	}
	check(t, "Close", v.Close(4), "")
	for _, alias := range []string{"", "gone", "w", "a", "R", "user", "user_error", "2"} {
		if id, is := v.Find(alias); id != 0 || is {
			t.Errorf("Find(%q): %d, %v", alias, id, is)
		}
	}
}

// P8.8: many streams and files, each told in its order.
func TestOrders(t *testing.T) {
	names := []string{"b", "a", "B", "ab", "\u00e9", "z", "\xff", "a\x00", "aa", "~"}
	v := with(t, "")
	for i, name := range names {
		check(t, "Put", v.Put(open(t, v, name, api.ModeWrite, none), strconv.Itoa(i)), "")
	}
	check(t, "Close", v.Close(4), "")
	if l := v.Streams(); !slices.Equal(l, []int{0, 1, 2, 3, 5, 6, 7, 8, 9, 10, 11}) {
		t.Errorf("%v", l)
	}
	checkFiles(t, v, "B", "2", "a", "1", "a\x00", "7", "aa", "8", "ab", "3", "b", "0", "z", "5", "~", "9", "\u00e9", "4", "\xff", "6")
}

// P8.8, R4: lists that are told are new ones, spare room too.
func TestListsAreNew(t *testing.T) {
	v := mixed(t)
	was := whole(v)
	ids, files := v.Streams(), v.Files()
	if len(ids) != 6 || len(files) != 3 {
		t.Errorf("%v, %v", ids, files)
	}
	ids, files = ids[:cap(ids)], files[:cap(files)]
	for i := range ids {
		ids[i] = math.MaxInt
	}
	for i := range files {
		files[i] = api.File{Name: "spoilt"}
	}
	if whole(v) != was {
		t.Errorf("it is changed")
	}
}

// R1: of none an error's number, or nothing.
func TestNoFS(t *testing.T) {
	var v *vfs.FS
	for what, err := range calls(v, 0) {
		check(t, what, err, "error 1")
	}
	checkNotOpened(t, v, "", 0, none, "error 1")
	checkNotOpened(t, v, "", api.ModeRead, none, "error 1")
	checkNotOpened(t, v, "a", api.ModeWrite, none, "error 1")
	check(t, "Put", v.Put(1, "\xff"), "error 1")
	check(t, "PutByte", v.PutByte(1, 256), "error 1")
	check(t, "Close", v.Close(9), "error 1")
	if s, is := v.Stream(0); is || s != (api.Stream{}) {
		t.Errorf("%v, %v", s, is)
	}
	if id, is := v.Find("user_input"); is || id != 0 {
		t.Errorf("%v, %v", id, is)
	}
	if len(v.Streams()) > 0 || v.Input() != 0 || v.Output() != 0 || len(v.Files()) > 0 || v.Out() != "" {
		t.Errorf("something is told of none")
	}
}
