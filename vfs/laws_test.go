package vfs_test

import (
	"strings"
	"testing"

	"hornbeam/api"
	"hornbeam/sample"
	"hornbeam/vfs"
)

// readAll is what is read up to the end, by Char or Byte.
func readAll(t *testing.T, read func(id int, peek bool) (int, error), id int) []int {
	t.Helper()
	var out []int
	for {
		n, err := read(id, false)
		if err != nil {
			t.Fatal(said(err))
		}
		if n < 0 {
			return out
		}
		out = append(out, n)
	}
}

// P8.9: what was put on a file, and closed, is what is read of it.
func TestWhatIsPutIsRead(t *testing.T) {
	d := sample.Dice(9)
	for range 200 {
		v := with(t, "", "a", "old\n")
		mode := sample.Throw(&d, api.ModeWrite, api.ModeAppend)
		var want strings.Builder
		if mode == api.ModeAppend {
			want.WriteString("old\n")
		}
		id := open(t, v, "a", mode, none)
		for range d.Next(30) {
			part := sample.Throw(&d, "", "x", "two words", "\n", "\u00e9", "\u20ac\U0001f600\n", "\x00")
			check(t, "Put", v.Put(id, part), "")
			check(t, "Put", v.Put(id, part+"\xff"), noCharacter)
			want.WriteString(part)
		}
		check(t, "Close", v.Close(id), "")
		checkFiles(t, v, "a", want.String())
		id = open(t, v, "a", api.ModeRead, once)
		checkSource(t, v, id, want.String(), 0, "")
		var got strings.Builder
		for _, char := range readAll(t, v.Char, id) {
			got.WriteRune(rune(char))
		}
		if got.String() != want.String() {
			t.Fatalf("%q is read, not %q", got.String(), want.String())
		}
	}
}

// P8.9: and so it is of bytes.
func TestBytesThatArePutAreRead(t *testing.T) {
	d := sample.Dice(10)
	for range 100 {
		v := with(t, "")
		id := open(t, v, "a", api.ModeWrite, bytes)
		var want []byte
		for range d.Next(300) {
			b := d.Next(256)
			check(t, "PutByte", v.PutByte(id, b), "")
			want = append(want, byte(b))
		}
		check(t, "Close", v.Close(id), "")
		checkFiles(t, v, "a", string(want))
		id = open(t, v, "a", api.ModeRead, bytes)
		var got []byte
		for _, b := range readAll(t, v.Byte, id) {
			got = append(got, byte(b))
		}
		if string(got) != string(want) {
			t.Fatalf("%q is read, not %q", got, want)
		}
	}
}

// P8.9: what is read hangs on nothing that other streams are told.
func TestStreamsStandAlone(t *testing.T) {
	v := with(t, "xyz", "a", "abc", "b", "")
	one, two := open(t, v, "a", api.ModeRead, place), open(t, v, "a", api.ModeRead, once)
	w := open(t, v, "b", api.ModeWrite, none)
	for i, char := range "abc" {
		checkReads(t, "Char", v.Char, one, int(char))
		check(t, "Put", v.Put(w, "w"), "")
		check(t, "Put", v.Put(1, "o"), "")
		check(t, "Seek", v.Seek(one, 0), "")
		checkReads(t, "Char", v.Char, two, int(char))
		checkReads(t, "Char", v.Char, 0, int("xyz"[i]))
		check(t, "Seek", v.Seek(one, i+1), "")
	}
	check(t, "Close", v.Close(one), "")
	checkReads(t, "Char", v.Char, two, -1)
	checkFiles(t, v, "a", "abc", "b", "www")
	if v.Out() != "ooo" {
		t.Errorf("%q", v.Out())
	}
}

// R4: what was told stays what it was, whatever is written then.
func TestWhatWasToldStays(t *testing.T) {
	v := with(t, "", "a", "first\n")
	id := open(t, v, "a", api.ModeRead, none)
	source, _, _ := v.Source(id)
	check(t, "Close", v.Close(id), "")
	check(t, "Put", v.Put(1, "out"), "")
	out, files := v.Out(), v.Files()
	id = open(t, v, "a", api.ModeAppend, none)
	check(t, "Put", v.Put(id, "second"), "")
	check(t, "Put", v.Put(1, "more"), "")
	check(t, "Close", v.Close(id), "")
	open(t, v, "a", api.ModeWrite, none)
	if source != "first\n" || out != "out" || len(files) != 1 || files[0].Data != "first\n" {
		t.Errorf("%q, %q, %v", source, out, files)
	}
	checkFiles(t, v, "a", "")
}

// R4: each ball is a new one, which may be changed.
func TestBallsAreNew(t *testing.T) {
	v := mixed(t)
	for _, tell := range []func() error{
		func() error { _, err := v.Open("nobody", api.ModeRead, none); return err },
		func() error { _, err := v.Char(1, false); return err },
		func() error { return v.Seek(2, -1) },
		func() error { return v.Put(4, "\xff") },
		func() error { return v.Close(9) },
	} {
		first := tell().(*api.Ball)
		want := said(first)
		sample.Spoil(first.Term)
		if got := said(tell()); got != want || said(first) == want {
			t.Errorf("%s is told, not %s", got, want)
		}
	}
}

// R5: two that were told the same things stand alone.
func TestTwoAreApart(t *testing.T) {
	files := []api.File{{Name: "a", Data: "x"}}
	v, _ := vfs.New(files, "in")
	w, _ := vfs.New(files, "in")
	was := whole(w)
	id := open(t, v, "a", api.ModeWrite, none)
	check(t, "Put", v.Put(id, "changed"), "")
	check(t, "Put", v.Put(1, "changed"), "")
	checkReads(t, "Char", v.Char, 0, 'i')
	if whole(w) != was {
		t.Errorf("the other one is changed")
	}
}
