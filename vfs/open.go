package vfs

import (
	"strings"

	"hornbeam/api"
	"hornbeam/ball"
	"hornbeam/tree"
)

// Open opens a stream: its number.
func (v *FS) Open(name string, mode int, o api.StreamOptions) (int, error) {
	if v == nil || mode < api.ModeRead || mode > api.ModeAppend {
		return 0, api.ErrArg
	}
	if !isName(name) {
		return 0, api.ErrVfsName
	}
	if err := v.mayOpen(name, mode, o); err != nil {
		return 0, err
	}
	v.newest++
	told := api.Stream{Id: v.newest, File: name, Mode: mode, Binary: o.Binary, Alias: o.Alias, Eof: o.Eof, Reposition: o.Reposition}
	v.streams[v.newest] = opened(told, v.fileFor(name, mode))
	return v.newest, nil
}

func (v *FS) mayOpen(name string, mode int, o api.StreamOptions) error {
	_, isAlias := v.Find(o.Alias)
	_, isThere := v.files[name]
	switch {
	case isAlias:
		return mayNotOpen(tree.Of("alias", tree.Atom(o.Alias)))
	case o.Reposition && mode != api.ModeRead:
		return mayNotOpen(tree.Of("reposition", tree.Atom("true")))
	case !isThere && mode == api.ModeRead:
		return ball.Existence("source_sink", tree.Atom(name))
	case v.isTaken(name, mode):
		return mayNotOpen(tree.Atom(name))
	case len(v.streams) >= api.MaxStreams:
		return ball.Resource("streams")
	case !isThere && len(v.files) >= api.MaxFiles:
		return ball.Resource("files")
	}
	return nil
}

func mayNotOpen(what api.Term) error { return ball.Permission("open", "source_sink", what) }

// isTaken tells whether an open stream stands in the way of another one of its
// file: only those that read it go together.
func (v *FS) isTaken(name string, mode int) bool {
	for _, s := range v.streams {
		if c := s.base(); c.File == name && !(c.isRead() && mode == api.ModeRead) {
			return true
		}
	}
	return false
}

// fileFor is the file of a name, made ready for a mode: no other stream that is
// open has one that is emptied.
func (v *FS) fileFor(name string, mode int) *strings.Builder {
	if mode == api.ModeWrite || v.files[name] == nil {
		v.files[name] = new(strings.Builder)
	}
	return v.files[name]
}
