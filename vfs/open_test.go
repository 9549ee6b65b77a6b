package vfs_test

import (
	"slices"
	"strconv"
	"testing"

	"hornbeam/api"
	"hornbeam/vfs"
)

// crowded is one with files a, b and c and as many streams open as may be: c is
// read, and has the alias taken, the others are read of b.
func crowded(t *testing.T) *vfs.FS {
	t.Helper()
	v := with(t, "", "a", "x", "b", "y", "c", "z")
	open(t, v, "c", api.ModeRead, api.StreamOptions{Alias: "taken"})
	for len(v.Streams()) < api.MaxStreams {
		open(t, v, "b", api.ModeRead, none)
	}
	return v
}

// full is one with as many files as may be, f0 to f15.
func full(t *testing.T) *vfs.FS {
	t.Helper()
	v, e := vfs.New(some(api.MaxFiles), "")
	if e != api.OK {
		t.Fatal(e)
	}
	return v
}

var (
	taken      = notOpened(of("alias", atom("taken")))
	reposition = notOpened(of("reposition", atom("true")))
)

func noFile(name string) string { return existence("source_sink", atom(name)) }

// P8.2: numbers and names that may not be, ahead of all else.
func TestOpenArguments(t *testing.T) {
	v := crowded(t)
	was := whole(v)
	for _, mode := range noModes() {
		for _, name := range []string{"a", "", "nobody", text(api.MaxName + 1)} {
			checkNotOpened(t, v, name, mode, api.StreamOptions{Alias: "taken", Reposition: true}, "error 1")
		}
	}
	for _, mode := range modes() {
		for _, name := range []string{"", text(api.MaxName + 1)} {
			checkNotOpened(t, v, name, mode, api.StreamOptions{Alias: "taken", Reposition: true}, "error 81")
		}
	}
	if whole(v) != was {
		t.Errorf("it is changed")
	}
	v = with(t, "")
	if id := open(t, v, text(api.MaxName), api.ModeWrite, none); id != 2 {
		t.Errorf("%d", id)
	}
}

// P8.2: an alias that an open stream has.
func TestOpenAlias(t *testing.T) {
	v := crowded(t)
	o := api.StreamOptions{Alias: "taken", Reposition: true}
	checkNotOpened(t, v, "a", api.ModeWrite, o, taken)
	checkNotOpened(t, v, "nobody", api.ModeRead, o, taken)
	checkNotOpened(t, v, "b", api.ModeWrite, o, taken)
	checkNotOpened(t, v, "c", api.ModeRead, o, taken)
	for _, alias := range []string{"user_input", "user_output"} {
		checkNotOpened(t, v, "a", api.ModeRead, api.StreamOptions{Alias: alias}, notOpened(of("alias", atom(alias))))
	}
	check(t, "Close", v.Close(2), "")
	if id := open(t, v, "a", api.ModeWrite, api.StreamOptions{Alias: "taken"}); id != 16 {
		t.Errorf("%d", id)
	}
	checkNotOpened(t, v, "b", api.ModeRead, api.StreamOptions{Alias: "taken"}, taken)
	v = with(t, "", "a", "x")
	for _, alias := range []string{"", "", "b", "Taken", " taken", "user_input ", "a"} {
		open(t, v, "a", api.ModeRead, api.StreamOptions{Alias: alias})
	}
}

// P8.2: what is written has no place that may be set.
func TestOpenReposition(t *testing.T) {
	v := crowded(t)
	for _, mode := range []int{api.ModeWrite, api.ModeAppend} {
		for _, name := range []string{"a", "b", "c", "nobody"} {
			checkNotOpened(t, v, name, mode, place, reposition)
		}
		checkNotOpened(t, full(t), "nobody", mode, place, reposition)
		checkNotOpened(t, with(t, "", "a", "x"), "a", mode, place, reposition)
	}
	v = with(t, "", "a", "x")
	open(t, v, "a", api.ModeRead, place)
}

// P8.2: what is read must be there.
func TestOpenOfNoFile(t *testing.T) {
	for _, v := range []*vfs.FS{crowded(t), full(t), with(t, ""), with(t, "", "nobod", "x", "nobody2", "x")} {
		for _, o := range []api.StreamOptions{none, bytes, place, {Alias: "new", Eof: 9}} {
			checkNotOpened(t, v, "nobody", api.ModeRead, o, noFile("nobody"))
		}
	}
	checkNotOpened(t, with(t, ""), "\xff", api.ModeRead, none, noFile("\xff"))
}

// P8.2: a file is read by many, or written by one.
func TestOpenOfTakenFiles(t *testing.T) {
	for _, one := range modes() {
		for _, other := range modes() {
			for _, binary := range []bool{false, true} {
				v := with(t, "", "a", "x", "b", "y")
				first := open(t, v, "a", one, none)
				was := whole(v)
				o := api.StreamOptions{Binary: binary}
				if one == api.ModeRead && other == api.ModeRead {
					open(t, v, "a", other, o)
				} else {
					checkNotOpened(t, v, "a", other, o, notOpened(atom("a")))
					if whole(v) != was {
						t.Errorf("%d, %d: it is changed", one, other)
					}
				}
				open(t, v, "b", other, o)
				check(t, "Close", v.Close(first), "")
				if one != api.ModeRead || other != api.ModeRead {
					open(t, v, "a", other, o)
				}
			}
		}
	}
	v := crowded(t)
	checkNotOpened(t, v, "b", api.ModeAppend, none, notOpened(atom("b")))
}

// P8.2: no more streams than may be; they are counted ahead of the files.
func TestOpenTooManyStreams(t *testing.T) {
	v := crowded(t)
	was := whole(v)
	checkNotOpened(t, v, "a", api.ModeRead, none, resource("streams"))
	checkNotOpened(t, v, "a", api.ModeWrite, none, resource("streams"))
	checkNotOpened(t, v, "nobody", api.ModeAppend, none, resource("streams"))
	if l := v.Streams(); len(l) != 16 || whole(v) != was {
		t.Errorf("%v; or it is changed", l)
	}
	check(t, "Close", v.Close(7), "")
	if id := open(t, v, "a", api.ModeWrite, none); id != 16 || len(v.Streams()) != 16 {
		t.Errorf("%d, %v", id, v.Streams())
	}
	checkNotOpened(t, v, "c", api.ModeRead, none, resource("streams"))
	v = full(t)
	for range api.MaxStreams - 2 {
		open(t, v, "f0", api.ModeRead, none)
	}
	checkNotOpened(t, v, "nobody", api.ModeWrite, none, resource("streams"))
}

// P8.2: no more files than may be.
func TestOpenTooManyFiles(t *testing.T) {
	v := full(t)
	was := whole(v)
	for _, mode := range []int{api.ModeWrite, api.ModeAppend} {
		checkNotOpened(t, v, "nobody", mode, none, resource("files"))
	}
	if whole(v) != was {
		t.Errorf("it is changed")
	}
	open(t, v, "f15", api.ModeWrite, none)
	open(t, v, "f14", api.ModeAppend, none)
	open(t, v, "f13", api.ModeRead, none)
	v, _ = vfs.New(some(api.MaxFiles-1), "")
	id := open(t, v, "one more", api.ModeAppend, none)
	check(t, "Close", v.Close(id), "")
	checkNotOpened(t, v, "two more", api.ModeAppend, none, resource("files"))
	if len(v.Files()) != 16 {
		t.Errorf("%v", v.Files())
	}
}

// P8.2: numbers go on from the greatest that there was; none is given twice,
// and a call that is refused takes none.
func TestOpenNumbers(t *testing.T) {
	v := with(t, "", "a", "x")
	for want := 2; want < 40; want++ {
		checkNotOpened(t, v, "b", api.ModeRead, none, noFile("b"))
		if id := open(t, v, "a", api.ModeRead, none); id != want {
			t.Fatalf("%d, not %d", id, want)
		}
		switch {
		case want%2 == 0:
			check(t, "Close", v.Close(want), "")
		case want > 8:
			check(t, "Close", v.Close(want-4), "")
		}
	}
}

// P8.2, P8.8: what is told of a stream is what was asked for.
func TestOpenTells(t *testing.T) {
	for _, mode := range modes() {
		for _, binary := range []bool{false, true} {
			for _, eof := range []int{api.EofError, api.EofCode, api.EofReset, 0, -7, 4} {
				for _, again := range []bool{false, mode == api.ModeRead} {
					v := with(t, "", "a", "x\n\u00e9\n\n")
					o := api.StreamOptions{Binary: binary, Alias: "al", Eof: eof, Reposition: again}
					want := api.Stream{Id: open(t, v, "a", mode, o), File: "a", Mode: mode, Binary: binary, Alias: "al", Eof: eof, Reposition: again, Line: 1}
					if mode == api.ModeAppend {
						want.Pos, want.Line = 6, 4
					}
					checkStream(t, v, want)
				}
			}
		}
	}
}

// P8.2: a file that is written is empty, one that is appended to stays; both
// are there from then on.
func TestOpenMakesFiles(t *testing.T) {
	v := with(t, "", "b", "old\n", "c", "kept\n")
	open(t, v, "d", api.ModeWrite, none)
	open(t, v, "a", api.ModeAppend, none)
	open(t, v, "b", api.ModeWrite, none)
	open(t, v, "c", api.ModeAppend, none)
	checkFiles(t, v, "a", "", "b", "", "c", "kept\n", "d", "")
	for id, place := range map[int][2]int{2: {0, 1}, 3: {0, 1}, 4: {0, 1}, 5: {5, 2}} {
		checkPlace(t, v, id, place[0], place[1], api.EndNot)
	}
	for _, id := range []int{2, 3, 4, 5} {
		check(t, "Put", v.Put(id, strconv.Itoa(id)), "")
		check(t, "Close", v.Close(id), "")
	}
	checkFiles(t, v, "a", "3", "b", "4", "c", "kept\n5", "d", "2")
}

// P8.2: an empty file that is read is at its end at once.
func TestOpenOfEmptyFile(t *testing.T) {
	v := with(t, "", "a", "")
	checkPlace(t, v, open(t, v, "a", api.ModeRead, none), 0, 1, api.EndAt)
	checkPlace(t, v, open(t, v, "a", api.ModeRead, bytes), 0, 1, api.EndAt)
	v = with(t, "", "a", "")
	checkPlace(t, v, open(t, v, "a", api.ModeAppend, none), 0, 1, api.EndNot)
}

// P8.2: two streams of a file stand at places of their own.
func TestOpenTwice(t *testing.T) {
	v := with(t, "", "a", "xy")
	one, two := open(t, v, "a", api.ModeRead, none), open(t, v, "a", api.ModeRead, bytes)
	checkReads(t, "Char", v.Char, one, 'x', 'y', -1)
	checkReads(t, "Byte", v.Byte, two, 'x', 'y', -1)
	if l := v.Streams(); !slices.Equal(l, []int{0, 1, one, two}) {
		t.Errorf("%v", l)
	}
}
