package vfs_test

import (
	"math"
	"strconv"
	"strings"
	"testing"

	"hornbeam/api"
	"hornbeam/sample"
	"hornbeam/tree"
	"hornbeam/vfs"
)

// Short names for what makes terms, and for options that are often asked for.
var (
	atom, of, num = tree.Atom, tree.Of, tree.Int
	short         = sample.Short

	none  = api.StreamOptions{}
	bytes = api.StreamOptions{Binary: true}
	place = api.StreamOptions{Reposition: true}
	once  = api.StreamOptions{Eof: api.EofError}
)

// said is an error as text; of none it is empty.
func said(err error) string {
	switch x := err.(type) {
	case nil:
		return ""
	case *api.Ball:
		return sample.Show(x.Term)
	case api.Errno:
		return "error " + strconv.Itoa(int(x))
	}
	return "an error of another type"
}

// What said tells of balls.

func permission(action, kind string, x api.Term) string {
	return sample.Show(of("permission_error", atom(action), atom(kind), x))
}

func existence(kind string, x api.Term) string {
	return sample.Show(of("existence_error", atom(kind), x))
}

func resource(what string) string { return sample.Show(of("resource_error", atom(what))) }

func noPlace(n int) string {
	return sample.Show(of("domain_error", atom("stream_position"), num(n)))
}

func notOpened(x api.Term) string { return permission("open", "source_sink", x) }

func stream(id int) api.Term { return of("$stream", num(id)) }

func missing(id int) string { return existence("stream", stream(id)) }

// mayNot is the ball of what may not be done to a stream.
func mayNot(action, kind string, id int) string { return permission(action, kind, stream(id)) }

var noCharacter = sample.Show(of("representation_error", atom("character")))

// noNumbers are numbers of no stream, while less than fifty were opened.
func noNumbers() []int { return []int{-1, 50, 99, math.MinInt, math.MaxInt} }

// noModes are numbers of no mode.
func noModes() []int { return []int{0, -1, 4, math.MinInt, math.MaxInt} }

func modes() []int { return []int{api.ModeRead, api.ModeWrite, api.ModeAppend} }

// with is one with files: a name and what it holds, one behind the other.
func with(t *testing.T, input string, l ...string) *vfs.FS {
	t.Helper()
	var files []api.File
	for i := 0; i < len(l); i += 2 {
		files = append(files, api.File{Name: l[i], Data: l[i+1]})
	}
	v, e := vfs.New(files, input)
	if e != api.OK || v == nil {
		t.Fatalf("New: %v", e)
	}
	return v
}

// open opens what must be opened.
func open(t *testing.T, v *vfs.FS, name string, mode int, o api.StreamOptions) int {
	t.Helper()
	id, err := v.Open(name, mode, o)
	if err != nil {
		t.Fatalf("Open(%q, %d, %v): %s", short(name), mode, o, said(err))
	}
	return id
}

func checkNotOpened(t *testing.T, v *vfs.FS, name string, mode int, o api.StreamOptions, want string) {
	t.Helper()
	if id, err := v.Open(name, mode, o); id != 0 || said(err) != want {
		t.Errorf("Open(%q, %d, %v): %d, %s; want %s", short(name), mode, o, id, said(err), short(want))
	}
}

// check checks what a call that answers an error alone says.
func check(t *testing.T, what string, err error, want string) {
	t.Helper()
	if said(err) != want {
		t.Errorf("%s: %q; want %q", what, said(err), want)
	}
}

// checkRead checks a Char or a Byte.
func checkRead(t *testing.T, what string, read func(id int, peek bool) (int, error), id int, peek bool, want int, wrong string) {
	t.Helper()
	if n, err := read(id, peek); n != want || said(err) != wrong {
		t.Errorf("%s(%d, %v): %d, %q; want %d, %q", what, id, peek, n, said(err), want, wrong)
	}
}

// checkReads checks Chars or Bytes, one behind the other, each of them peeked
// at ahead.
func checkReads(t *testing.T, what string, read func(id int, peek bool) (int, error), id int, want ...int) {
	t.Helper()
	for _, n := range want {
		for _, peek := range []bool{true, true, false} {
			checkRead(t, what, read, id, peek, n, "")
		}
	}
}

func checkSource(t *testing.T, v *vfs.FS, id int, data string, pos int, wrong string) {
	t.Helper()
	if got, at, err := v.Source(id); got != data || at != pos || said(err) != wrong {
		t.Errorf("Source(%d): %q, %d, %q; want %q, %d, %q", id, short(got), at, said(err), short(data), pos, wrong)
	}
}

func checkStream(t *testing.T, v *vfs.FS, want api.Stream) {
	t.Helper()
	if got, is := v.Stream(want.Id); got != want || !is {
		t.Errorf("Stream(%d): %+v, %v; want %+v", want.Id, got, is, want)
	}
}

// checkPlace checks where a stream stands.
func checkPlace(t *testing.T, v *vfs.FS, id, pos, line, end int) {
	t.Helper()
	if s, is := v.Stream(id); s.Pos != pos || s.Line != line || s.End != end || !is {
		t.Errorf("stream %d is at %d, line %d, end %d; want %d, %d, %d", id, s.Pos, s.Line, s.End, pos, line, end)
	}
}

// checkFiles checks all files: a name and what it holds, one behind the other.
func checkFiles(t *testing.T, v *vfs.FS, want ...string) {
	t.Helper()
	var got []string
	for _, f := range v.Files() {
		got = append(got, f.Name, f.Data)
	}
	if a, b := strings.Join(got, "|"), strings.Join(want, "|"); a != b {
		t.Errorf("the files are %s; want %s", short(a), short(b))
	}
}

// whole is all that can be told of one.
func whole(v *vfs.FS) string {
	var out strings.Builder
	number := func(n int) { out.WriteString(strconv.Itoa(n) + ",") }
	number(v.Input())
	number(v.Output())
	for _, id := range v.Streams() {
		s, is := v.Stream(id)
		found, known := v.Find(s.Alias)
		if !is || s.Id != id || known != (s.Alias != "") || known && found != id {
			out.WriteString("broken ")
		}
		out.WriteString(strconv.Quote(s.File) + strconv.FormatBool(s.Binary) + strconv.Quote(s.Alias) + strconv.FormatBool(s.Reposition))
		for _, n := range []int{s.Id, s.Mode, s.Eof, s.Pos, s.Line, s.End} {
			number(n)
		}
	}
	for _, f := range v.Files() {
		out.WriteString(strconv.Quote(f.Name) + strconv.Quote(f.Data))
	}
	return out.String() + strconv.Quote(v.Out())
}
