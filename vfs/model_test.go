package vfs_test

import (
	"math"
	"slices"
	"strconv"
	"strings"
	"testing"
	"unicode/utf8"

	"hornbeam/api"
	"hornbeam/sample"
	"hornbeam/vfs"
)

// model is files and streams in lists, with the chapter's rules as they are
// worded there.
type model struct {
	files        []api.File // in no order
	streams      []modelStream
	opened       int // how many were opened ever, the two counted
	in, out      int
	input, shown string
	written      int
}

type modelStream struct {
	id, mode  int
	file      string
	o         api.StreamOptions
	pos       int
	endIsRead bool
}

func newModel(files []api.File, input string) *model {
	reset := api.EofReset
	return &model{
		files: slices.Clone(files), opened: 2, out: 1, input: input,
		streams: []modelStream{
			{id: 0, mode: api.ModeRead, o: api.StreamOptions{Alias: "user_input", Eof: reset}},
			{id: 1, mode: api.ModeAppend, o: api.StreamOptions{Alias: "user_output", Eof: reset}},
		},
	}
}

// call is one of a row; what it asks for that its name does not need is not
// looked at.
type call struct {
	name   string
	id, n  int
	text   string
	o      api.StreamOptions
	peek   bool
	answer string
}

// done is what a call answers.
func (c call) done(v *vfs.FS) string {
	switch c.name {
	case "Open":
		id, err := v.Open(c.text, c.n, c.o)
		return answer(id, err)
	case "Close":
		return said(v.Close(c.id))
	case "SetInput":
		return said(v.SetInput(c.id))
	case "SetOutput":
		return said(v.SetOutput(c.id))
	case "Char":
		n, err := v.Char(c.id, c.peek)
		return answer(n, err)
	case "Byte":
		n, err := v.Byte(c.id, c.peek)
		return answer(n, err)
	case "Source":
		data, pos, err := v.Source(c.id)
		return data + answer(pos, err)
	case "Advance":
		return said(v.Advance(c.id, c.n))
	case "Put":
		return said(v.Put(c.id, c.text))
	case "PutByte":
		return said(v.PutByte(c.id, c.n))
	}
	return said(v.Seek(c.id, c.n))
}

func answer(n int, err error) string { return strconv.Itoa(n) + " " + said(err) }

// want is what a call must answer.
func (m *model) want(c call) string {
	if c.name == "Open" {
		wrong := m.notOpened(c.text, c.n, c.o)
		if wrong != "" {
			return "0 " + wrong
		}
		return strconv.Itoa(m.open(c.text, c.n, c.o)) + " "
	}
	at := slices.IndexFunc(m.streams, func(s modelStream) bool { return s.id == c.id })
	value := map[string]string{"Char": "0 ", "Byte": "0 ", "Source": "0 "}[c.name]
	if at < 0 {
		return value + missing(c.id)
	}
	s := &m.streams[at]
	if wrong := m.wrongWay(c, s); wrong != "" {
		return value + wrong
	}
	switch c.name {
	case "Close":
		m.close(c.id)
	case "SetInput":
		m.in = c.id
	case "SetOutput":
		m.out = c.id
	case "Char", "Byte":
		return m.read(c, s)
	case "Source":
		return m.data(s) + strconv.Itoa(s.pos) + " "
	case "Advance":
		return m.advance(c, s)
	case "Put", "PutByte":
		return m.put(c, s)
	case "Seek":
		return m.seek(c, s)
	}
	return ""
}

func (m *model) notOpened(name string, mode int, o api.StreamOptions) string {
	there := m.file(name) != nil
	reads := mode == api.ModeRead
	switch {
	case mode < 1 || mode > 3:
		return "error 1"
	case len(name) == 0 || len(name) > 1000:
		return "error 81"
	case o.Alias != "" && slices.ContainsFunc(m.streams, func(s modelStream) bool { return s.o.Alias == o.Alias }):
		return notOpened(of("alias", atom(o.Alias)))
	case o.Reposition && !reads:
		return reposition
	case reads && !there:
		return noFile(name)
	case slices.ContainsFunc(m.streams, func(s modelStream) bool { return s.file == name && s.mode != api.ModeRead }),
		!reads && slices.ContainsFunc(m.streams, func(s modelStream) bool { return s.file == name && s.mode == api.ModeRead }):
		return notOpened(atom(name))
	case len(m.streams) == 16:
		return resource("streams")
	case !there && len(m.files) == 16:
		return resource("files")
	}
	return ""
}

func (m *model) open(name string, mode int, o api.StreamOptions) int {
	if m.file(name) == nil {
		m.files = append(m.files, api.File{Name: name})
	}
	s := modelStream{id: m.opened, mode: mode, file: name, o: o}
	switch mode {
	case api.ModeWrite:
		m.file(name).Data = ""
	case api.ModeAppend:
		s.pos = len(m.file(name).Data)
	}
	m.streams = append(m.streams, s)
	m.opened++
	return s.id
}

func (m *model) file(name string) *api.File {
	for i := range m.files {
		if m.files[i].Name == name {
			return &m.files[i]
		}
	}
	return nil
}

func (m *model) data(s *modelStream) string {
	switch s.id {
	case 0:
		return m.input
	case 1:
		return m.shown
	}
	return m.file(s.file).Data
}

// wrongWay is what a call tells of a stream that is not of its way or kind, or
// of which all was read.
func (m *model) wrongWay(c call, s *modelStream) string {
	kind := "text_stream"
	if s.o.Binary {
		kind = "binary_stream"
	}
	switch c.name {
	case "SetInput", "Char", "Byte", "Source", "Advance":
		switch {
		case s.mode != api.ModeRead:
			return mayNot("input", "stream", s.id)
		case c.name == "SetInput":
			return ""
		case s.o.Binary != (c.name == "Byte"):
			return mayNot("input", kind, s.id)
		case s.endIsRead && s.o.Eof == api.EofError:
			return mayNot("input", "past_end_of_stream", s.id)
		}
	case "SetOutput", "Put", "PutByte":
		switch {
		case s.mode == api.ModeRead:
			return mayNot("output", "stream", s.id)
		case c.name != "SetOutput" && s.o.Binary != (c.name == "PutByte"):
			return mayNot("output", kind, s.id)
		}
	}
	return ""
}

func (m *model) close(id int) {
	if id < 2 {
		return
	}
	m.streams = slices.DeleteFunc(m.streams, func(s modelStream) bool { return s.id == id })
	if m.in == id {
		m.in = 0
	}
	if m.out == id {
		m.out = 1
	}
}

func (m *model) read(c call, s *modelStream) string {
	rest := m.data(s)[s.pos:]
	if len(rest) == 0 {
		s.endIsRead = s.endIsRead || !c.peek
		return "-1 "
	}
	number, size := int(rest[0]), 1
	if c.name == "Char" {
		var char rune
		char, size = utf8.DecodeRuneInString(rest)
		if char == utf8.RuneError && size < 2 {
			return "0 " + noCharacter
		}
		number = int(char)
	}
	if !c.peek {
		s.pos += size
	}
	return strconv.Itoa(number) + " "
}

func (m *model) advance(c call, s *modelStream) string {
	length := len(m.data(s))
	if c.n < s.pos || c.n > length {
		return "error 1"
	}
	s.endIsRead = s.pos == length
	s.pos = c.n
	return ""
}

func (m *model) put(c call, s *modelStream) string {
	data := c.text
	if c.name == "PutByte" {
		if c.n < 0 || c.n > 255 {
			return "error 83"
		}
		data = string([]byte{byte(c.n)})
	} else if !utf8.ValidString(data) {
		return noCharacter
	}
	switch {
	case m.written+len(data) > 100000:
		return resource("output")
	case s.id != 1 && len(m.data(s))+len(data) > 20000:
		return resource("file")
	case s.id == 1:
		m.shown += data
	default:
		m.file(s.file).Data += data
	}
	m.written += len(data)
	s.pos = len(m.data(s))
	return ""
}

func (m *model) seek(c call, s *modelStream) string {
	switch {
	case !s.o.Reposition:
		return mayNot("reposition", "stream", s.id)
	case c.n < 0 || c.n > len(m.data(s)):
		return noPlace(c.n)
	}
	s.pos, s.endIsRead = c.n, false
	return ""
}

// told is what Stream must tell.
func (m *model) told(s modelStream) api.Stream {
	out := api.Stream{Id: s.id, File: s.file, Mode: s.mode, Binary: s.o.Binary, Alias: s.o.Alias, Eof: s.o.Eof, Reposition: s.o.Reposition, Pos: s.pos, Line: 1}
	data := m.data(&s)
	for i := range s.pos {
		if data[i] == 10 {
			out.Line++
		}
	}
	if s.mode == api.ModeRead && s.pos == len(data) {
		out.End = api.EndAt
	}
	if s.endIsRead {
		out.End = api.EndPast
	}
	return out
}

// same looks at all that is told.
func (m *model) same(v *vfs.FS) bool {
	var ids []int
	for _, s := range m.streams {
		ids = append(ids, s.id)
		if got, is := v.Stream(s.id); !is || got != m.told(s) {
			return false
		}
		if id, is := v.Find(s.o.Alias); s.o.Alias != "" && (id != s.id || !is) {
			return false
		}
	}
	files := slices.SortedFunc(slices.Values(m.files), func(a, b api.File) int { return slices.Compare([]byte(a.Name), []byte(b.Name)) })
	_, is := v.Stream(m.opened)
	return !is && slices.Equal(v.Streams(), ids) && slices.Equal(v.Files(), files) && v.Input() == m.in && v.Output() == m.out && v.Out() == m.shown
}

// thrownCall is a call that is often about what is there.
func thrownCall(d *sample.Dice, m *model) call {
	c := call{peek: d.Next(3) == 0, id: m.streams[d.Next(len(m.streams))].id}
	if c.id < 2 {
		c.id = m.streams[d.Next(len(m.streams))].id
	}
	if d.Next(20) == 0 {
		c.id = sample.Throw(d, -1, m.opened, m.opened+1, d.Next(m.opened))
	}
	c.name = sample.Throw(d, "Open", "Open", "Open", "SetInput", "SetOutput", "Char", "Char", "Char", "Byte", "Byte", "Byte", "Source", "Advance", "Put", "Put", "PutByte", "PutByte", "Seek")
	if d.Next(25) == 0 {
		c.name = "Close"
	}
	switch c.name {
	case "Open":
		c.text, c.n, c.o = thrownName(d, m), sample.Throw(d, 1, 1, 1, 2, 3, 3), thrownOptions(d)
		if d.Next(30) == 0 {
			c.n = sample.Throw(d, noModes()...)
		}
	case "Put":
		c.text = sample.Throw(d, "", "x", "\n", "\u00e9\n", "ab\ncd", "\xff", "x\xe2\x82", "\ufffd")
		if d.Next(5) == 0 {
			c.text = strings.Repeat("line\n", d.Next(4500))
			c.id = sample.Throw(d, c.id, 1)
		}
	case "PutByte":
		c.n = sample.Throw(d, 0, 10, 65, 128, 195, 169, 255, -1, 256)
	case "Advance", "Seek":
		c.n = d.Next(9) - 1
		if i := slices.IndexFunc(m.streams, func(s modelStream) bool { return s.id == c.id }); i >= 0 {
			s := m.streams[i]
			c.n = sample.Throw(d, c.n, s.pos, s.pos+1, s.pos+2, len(m.data(&s)), len(m.data(&s))+1, math.MaxInt, -1)
		}
	}
	return c
}

func thrownName(d *sample.Dice, m *model) string {
	switch {
	case d.Next(30) == 0:
		return sample.Throw(d, "", strings.Repeat("n", 1000), strings.Repeat("n", 1001))
	case d.Next(2) == 0 && len(m.files) > 0:
		return sample.Throw(d, m.files...).Name
	}
	return sample.Throw(d, "a", "b", "c", "\u00e9", "f"+strconv.Itoa(d.Next(15)))
}

func thrownOptions(d *sample.Dice) api.StreamOptions {
	o := api.StreamOptions{Binary: d.Next(2) == 0, Eof: sample.Throw(d, 1, 1, 2, 3, 0), Reposition: d.Next(4) == 0}
	if d.Next(3) == 0 {
		o.Alias = sample.Throw(d, "x", "y", "z", "user_input", "user_output")
	}
	return o
}

// P8.1 to P8.9: long rows of calls tell what the model tells.
func TestRowsOfCalls(t *testing.T) {
	d := sample.Dice(8)
	for range 120 {
		files := []api.File{{Name: "b", Data: "x\ny\u00e9\n"}, {Name: "a", Data: "\xff\n\u00e9\xc3"}, {Name: "\u00e9"}, {Name: "c", Data: "lines\n\nof\ntext \U0010ffff"}}
		files = append(files[:d.Next(len(files)+1)], some(sample.Throw(&d, 0, 5, 12))...)
		input := sample.Throw(&d, "", "hi\n", "a\xc3\n")
		v, e := vfs.New(files, input)
		if e != api.OK {
			t.Fatal(e)
		}
		m := newModel(files, input)
		for range 400 {
			c := thrownCall(&d, m)
			want := m.want(c)
			if got := c.done(v); got != want || !m.same(v) {
				t.Fatalf("%+v: %q; want %q; or what is told then is another thing: %s", c, short(got), short(want), short(whole(v)))
			}
		}
	}
}
