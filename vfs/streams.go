package vfs

import (
	"strings"

	"hornbeam/api"
	"hornbeam/ball"
	"hornbeam/tree"
)

// The two ways in which streams go, as balls name them.
const (
	inward  = "input"
	outward = "output"
)

// stream is an open one: of characters, or of bytes.
type stream interface {
	base() *common
	char(peek bool) (int, error)
	byte(peek bool) (int, error)
	source() (string, int, error)
	advance(to int) error
	mayPut(text string) error
	mayPutByte(b int) error
}

// common is what both kinds of streams have in common. It refuses what only one
// of them does; that one has a call of its own in its place.
type common struct {
	api.Stream
	file *strings.Builder
}

// textual is a stream of characters.
type textual struct{ common }

// binary is a stream of bytes.
type binary struct{ common }

// opened is a new stream of a file, which stands where its mode asks for.
func opened(told api.Stream, file *strings.Builder) stream {
	c := common{Stream: told, file: file}
	c.Line = 1
	if c.isRead() {
		c.move(0)
	} else {
		c.move(file.Len())
	}
	if c.Binary {
		return &binary{c}
	}
	return &textual{c}
}

func streamTerm(id int) api.Term { return tree.Of("$stream", tree.Int(id)) }

func (c *common) base() *common { return c }

func (c *common) data() string { return c.file.String() }

func (c *common) isRead() bool { return c.Mode == api.ModeRead }

// move lets it stand at a place, which is one of its file. Lines are counted on
// from where it stood, for a long file may be written byte by byte.
func (c *common) move(to int) {
	if to < c.Pos {
		c.Pos, c.Line = 0, 1
	}
	c.Line += strings.Count(c.data()[c.Pos:to], "\n")
	c.Pos = to
	c.End = api.EndNot
	if c.isRead() && to == c.file.Len() {
		c.End = api.EndAt
	}
}

// goes is what is wrong, if it does not go one of the two ways.
func (c *common) goes(way string) error {
	if c.isRead() != (way == inward) {
		return c.refused(way, "stream")
	}
	return nil
}

// otherKind is what is wrong with a call of the other kind's.
func (c *common) otherKind(way string) error {
	if err := c.goes(way); err != nil {
		return err
	}
	if c.Binary {
		return c.refused(way, "binary_stream")
	}
	return c.refused(way, "text_stream")
}

func (c *common) refused(action, kind string) error {
	return ball.Permission(action, kind, streamTerm(c.Id))
}

func (c *common) char(bool) (int, error) { return 0, c.otherKind(inward) }

func (c *common) byte(bool) (int, error) { return 0, c.otherKind(inward) }

func (c *common) source() (string, int, error) { return "", 0, c.otherKind(inward) }

func (c *common) advance(int) error { return c.otherKind(inward) }

func (c *common) mayPut(string) error { return c.otherKind(outward) }

func (c *common) mayPutByte(int) error { return c.otherKind(outward) }
