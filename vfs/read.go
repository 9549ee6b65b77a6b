package vfs

import (
	"unicode/utf8"

	"hornbeam/api"
	"hornbeam/ball"
	"hornbeam/tree"
)

// end is what is read at the end.
const end = -1

// Char reads the next character; peek: it stays there; -1: the end.
func (v *FS) Char(id int, peek bool) (int, error) {
	s, err := v.numbered(id)
	if err != nil {
		return 0, err
	}
	return s.char(peek)
}

// Byte reads the next byte; peek: it stays there; -1: the end.
func (v *FS) Byte(id int, peek bool) (int, error) {
	s, err := v.numbered(id)
	if err != nil {
		return 0, err
	}
	return s.byte(peek)
}

// Source is the text of a stream that is read, and where it stands.
func (v *FS) Source(id int) (string, int, error) {
	s, err := v.numbered(id)
	if err != nil {
		return "", 0, err
	}
	return s.source()
}

// Advance lets it go on to a place.
func (v *FS) Advance(id, to int) error {
	s, err := v.numbered(id)
	if err != nil {
		return err
	}
	return s.advance(to)
}

// Seek sets a stream's position.
func (v *FS) Seek(id, pos int) error {
	s, err := v.numbered(id)
	if err != nil {
		return err
	}
	return s.base().seek(pos)
}

func (t *textual) char(peek bool) (int, error) { return t.read(peek, firstCharacter) }

func (b *binary) byte(peek bool) (int, error) { return b.read(peek, firstByte) }

// read is the number of what comes next; first tells it, and its length, of a
// text that begins with it.
func (c *common) read(peek bool, first func(text string) (number, length int)) (int, error) {
	if err := c.mayRead(); err != nil {
		return 0, err
	}
	rest := c.data()[c.Pos:]
	if rest == "" {
		if !peek {
			c.End = api.EndPast
		}
		return end, nil
	}
	number, length := first(rest)
	if length == 0 {
		return 0, ball.Representation("character")
	}
	if !peek {
		c.move(c.Pos + length)
	}
	return number, nil
}

// mayRead is what is wrong, if nothing, not even the end, may be read any more.
func (c *common) mayRead() error {
	if err := c.goes(inward); err != nil {
		return err
	}
	if c.End == api.EndPast && c.Eof == api.EofError {
		return c.refused(inward, "past_end_of_stream")
	}
	return nil
}

// firstCharacter is the character with which a text begins; it has no length,
// if what stands there is no whole one.
func firstCharacter(text string) (number, length int) {
	length = len(text)
	for at, char := range text {
		if at > 0 {
			length = at
			break
		}
		number = int(char)
	}
	// A bad byte is ranged over as this character, which is longer.
	if number == utf8.RuneError && length < utf8.RuneLen(utf8.RuneError) {
		return 0, 0
	}
	return number, length
}

func firstByte(text string) (number, length int) { return int(text[0]), 1 }

func (t *textual) source() (string, int, error) {
	if err := t.mayRead(); err != nil {
		return "", 0, err
	}
	return t.data(), t.Pos, nil
}

func (t *textual) advance(to int) error {
	if err := t.mayRead(); err != nil {
		return err
	}
	switch {
	case to < t.Pos || to > t.file.Len():
		return api.ErrArg
	case t.End != api.EndNot:
		t.End = api.EndPast
	default:
		t.move(to)
	}
	return nil
}

func (c *common) seek(pos int) error {
	switch {
	case !c.Reposition:
		return c.refused("reposition", "stream")
	case pos < 0 || pos > c.file.Len():
		return ball.Domain("stream_position", tree.Int(pos))
	}
	c.move(pos)
	return nil
}
