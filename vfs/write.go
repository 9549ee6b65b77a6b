package vfs

import (
	"math"
	"unicode/utf8"

	"hornbeam/api"
	"hornbeam/ball"
)

// Put writes characters.
func (v *FS) Put(id int, text string) error {
	s, err := v.numbered(id)
	if err != nil {
		return err
	}
	if err := s.mayPut(text); err != nil {
		return err
	}
	return v.write(s.base(), text)
}

// PutByte writes a byte.
func (v *FS) PutByte(id, b int) error {
	s, err := v.numbered(id)
	if err != nil {
		return err
	}
	if err := s.mayPutByte(b); err != nil {
		return err
	}
	return v.write(s.base(), string([]byte{byte(b)}))
}

func (t *textual) mayPut(text string) error {
	if err := t.goes(outward); err != nil {
		return err
	}
	if !utf8.ValidString(text) {
		return ball.Representation("character")
	}
	return nil
}

func (b *binary) mayPutByte(n int) error {
	if err := b.goes(outward); err != nil {
		return err
	}
	if n < 0 || n > math.MaxUint8 {
		return api.ErrVfsByte
	}
	return nil
}

// write puts something behind all that a stream's file has.
func (v *FS) write(c *common, data string) error {
	switch {
	case v.written+len(data) > api.MaxOut:
		return ball.Resource("output")
	case c.Id != userOutput && c.file.Len()+len(data) > api.MaxText:
		return ball.Resource("file")
	}
	v.written += len(data)
	c.file.WriteString(data)
	c.move(c.file.Len())
	return nil
}
