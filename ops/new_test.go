package ops_test

import (
	"testing"

	"hornbeam/api"
	"hornbeam/ops"
)

// first are the chapter's operators, by their names, byte by byte.
func first() []api.Op {
	return []api.Op{
		op(700, api.XFX, "#<"), op(760, api.YFX, "#<==>"), op(700, api.XFX, "#="), op(700, api.XFX, "#=<"), op(700, api.XFX, "#>"), op(700, api.XFX, "#>="), op(700, api.XFX, `#\=`),
		op(400, api.YFX, "*"), op(200, api.XFX, "**"),
		op(200, api.FY, "+"), op(500, api.YFX, "+"),
		op(1000, api.XFY, ","),
		op(200, api.FY, "-"), op(500, api.YFX, "-"), op(1200, api.XFX, "-->"), op(1050, api.XFY, "->"),
		op(450, api.XFX, ".."),
		op(400, api.YFX, "/"), op(400, api.YFX, "//"), op(500, api.YFX, `/\`),
		op(200, api.XFY, ":"), op(1200, api.FX, ":-"), op(1200, api.XFX, ":-"),
		op(1100, api.XFY, ";"),
		op(700, api.XFX, "<"), op(400, api.YFX, "<<"),
		op(700, api.XFX, "="), op(700, api.XFX, "=.."), op(700, api.XFX, "=:="), op(700, api.XFX, "=<"), op(700, api.XFX, "=="), op(700, api.XFX, `=\=`),
		op(700, api.XFX, ">"), op(700, api.XFX, ">="), op(400, api.YFX, ">>"),
		op(1200, api.FX, "?-"),
		op(700, api.XFX, "@<"), op(700, api.XFX, "@=<"), op(700, api.XFX, "@>"), op(700, api.XFX, "@>="),
		op(200, api.FY, `\`), op(900, api.FY, `\+`), op(500, api.YFX, `\/`), op(700, api.XFX, `\=`), op(700, api.XFX, `\==`),
		op(200, api.XFY, "^"),
		op(400, api.YFX, "div"), op(700, api.XFX, "in"), op(700, api.XFX, "ins"), op(700, api.XFX, "is"), op(400, api.YFX, "mod"), op(400, api.YFX, "rem"), op(400, api.YFX, "xor"),
		op(1100, api.XFY, "|"),
	}
}

// P4.1.
func TestNew(t *testing.T) {
	o := ops.New()
	checkAll(t, "New", all(o), first())
	byName := map[string][]api.Op{}
	for _, x := range first() {
		byName[x.Name] = append(byName[x.Name], x)
	}
	for name, want := range byName {
		checkName(t, o, name, want...)
	}
	for _, name := range []string{"", "foo", " ", "[]", "{}", "()", "!", ".", "#", "===>", "is ", "IS", "dynamic", "?", "@", "=@=", "\\\\", "|-", "rdiv", "\xff"} {
		checkName(t, o, name)
	}
}

// P4.1: one table that is made does not hang on another one.
func TestNewIsNewEachTime(t *testing.T) {
	o, p := ops.New(), ops.New()
	for _, x := range first() {
		if x.Name != "," {
			add(t, o, 0, x.Type, x.Name)
		}
	}
	add(t, o, 7, api.XF, "foo")
	checkAll(t, "the other one", all(p), first())
	checkAll(t, "a later one", all(ops.New()), first())
}
