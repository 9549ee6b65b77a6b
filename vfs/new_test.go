package vfs_test

import (
	"slices"
	"strconv"
	"strings"
	"testing"

	"hornbeam/api"
	"hornbeam/vfs"
)

func text(length int) string { return strings.Repeat("n", length) }

// some are so many files.
func some(count int) []api.File {
	var out []api.File
	for i := range count {
		out = append(out, api.File{Name: "f" + strconv.Itoa(i), Data: strconv.Itoa(i)})
	}
	return out
}

// P8.1: what is wrong, the first file that is wrong ahead of the others.
func TestNewRefuses(t *testing.T) {
	good, empty := api.File{Name: "a", Data: "x"}, api.File{Name: "", Data: "x"}
	long, full := api.File{Name: text(api.MaxName + 1)}, api.File{Name: "b", Data: text(api.MaxText + 1)}
	tooLong := text(api.MaxText + 1)
	for i, c := range []struct {
		files []api.File
		input string
		want  api.Errno
	}{
		{some(17), "", api.ErrVfsMany},
		{append([]api.File{empty, full}, some(15)...), tooLong, api.ErrVfsMany},
		{make([]api.File, 17), "", api.ErrVfsMany},
		{make([]api.File, 16), "", api.ErrVfsName},
		{[]api.File{empty}, "", api.ErrVfsName},
		{[]api.File{good, empty}, tooLong, api.ErrVfsName},
		{[]api.File{long}, "", api.ErrVfsName},
		{[]api.File{good, good}, "", api.ErrVfsName},
		{[]api.File{good, {Name: "c"}, {Name: "a"}}, "", api.ErrVfsName},
		{[]api.File{full}, "", api.ErrVfsLong},
		{[]api.File{full, empty}, "", api.ErrVfsLong},
		{[]api.File{empty, full}, "", api.ErrVfsName},
		{[]api.File{{Name: "", Data: tooLong}}, "", api.ErrVfsName},
		{[]api.File{good, {Name: "a", Data: tooLong}}, "", api.ErrVfsName},
		{[]api.File{full, full}, "", api.ErrVfsLong},
		{nil, tooLong, api.ErrVfsLong},
		{[]api.File{good}, tooLong, api.ErrVfsLong},
	} {
		if v, e := vfs.New(c.files, c.input); v != nil || e != c.want {
			t.Errorf("row %d: %v, %v; want %v", i, v != nil, e, c.want)
		}
	}
}

// P8.1: what is just allowed.
func TestNewAtTheEdges(t *testing.T) {
	if v, e := vfs.New(nil, ""); e != api.OK || len(v.Files()) > 0 {
		t.Errorf("no files: %v", e)
	}
	if v, e := vfs.New(some(16), ""); e != api.OK || len(v.Files()) != 16 {
		t.Errorf("16 files: %v", e)
	}
	full := text(api.MaxText)
	v := with(t, full, text(api.MaxName), full, "e", "")
	checkFiles(t, v, "e", "", text(api.MaxName), full)
	checkSource(t, v, 0, full, 0, "")
	for _, name := range []string{" ", "a/b", "\n", "\x00", "\xff", "\u00e9", "user_input", "[]", strings.Repeat("\u00e9", api.MaxName/2)} {
		checkFiles(t, with(t, "", name, "x"), name, "x")
	}
	v = with(t, "", "a", "\xff\x00\r\n")
	checkFiles(t, v, "a", "\xff\x00\r\n")
}

// P8.1, P8.8: the two streams that are always there.
func TestTheTwoStreams(t *testing.T) {
	v := with(t, "hi\n\u00e9")
	in := api.Stream{Id: 0, Mode: api.ModeRead, Alias: "user_input", Eof: api.EofReset, Line: 1}
	out := api.Stream{Id: 1, Mode: api.ModeAppend, Alias: "user_output", Eof: api.EofReset, Line: 1}
	checkStream(t, v, in)
	checkStream(t, v, out)
	if l := v.Streams(); !slices.Equal(l, []int{0, 1}) || v.Input() != 0 || v.Output() != 1 || v.Out() != "" {
		t.Errorf("%v, %d, %d, %q", l, v.Input(), v.Output(), v.Out())
	}
	checkReads(t, "Char", v.Char, 0, 'h', 'i', '\n', 0xe9, -1, -1, -1)
	in.Pos, in.Line, in.End = 5, 2, api.EndPast
	checkStream(t, v, in)
	check(t, "Put", v.Put(1, "a\n\u00e9\n"), "")
	out.Pos, out.Line = 5, 3
	checkStream(t, v, out)
	if v.Out() != "a\n\u00e9\n" {
		t.Errorf("%q", v.Out())
	}
	in.Pos, in.Line, in.End = 0, 1, api.EndAt
	checkStream(t, with(t, ""), in)
}

// R4: what is handed in is neither changed nor kept.
func TestNewKeepsNoList(t *testing.T) {
	l := make([]api.File, 2, 5)
	l[0], l[1] = api.File{Name: "b", Data: "x"}, api.File{Name: "a", Data: "y"}
	was := slices.Clone(l[:5])
	v, e := vfs.New(l, "")
	if e != api.OK || !slices.Equal(l[:5], was) {
		t.Fatalf("%v, %v", e, l[:5])
	}
	clear(l[:5])
	checkFiles(t, v, "a", "y", "b", "x")
}
