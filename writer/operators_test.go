package writer_test

import (
	"testing"

	"hornbeam/api"
	"hornbeam/ops"
)

// P6.3: each type of infix operator, its arguments of its own priority, of one
// less, and of one more.
func TestInfixSides(t *testing.T) {
	a, b, c := atom("a"), atom("b"), atom("c")
	for _, x := range []struct {
		kind                                             string
		left, right, leftSame, rightSame, leftXFY, onTop string
	}{
		{"xfx", "a y b o c", "a o b y c", "(a o b) o c", "a o (b o c)", "(a r b) o c", "(a z b) o c"},
		{"xfy", "a y b o c", "a o b y c", "(a o b) o c", "a o b o c", "(a r b) o c", "(a z b) o c"},
		{"yfx", "a y b o c", "a o b y c", "a o b o c", "a o (b o c)", "(a r b) o c", "(a z b) o c"},
	} {
		o := ops.New()
		add(t, o, 350, x.kind, "o")
		add(t, o, 349, "xfx", "y")
		add(t, o, 350, "xfy", "r")
		add(t, o, 351, "xfx", "z")
		check(t, f("o", f("y", a, b), c), o, quoted, x.left)
		check(t, f("o", a, f("y", b, c)), o, quoted, x.right)
		check(t, f("o", f("o", a, b), c), o, quoted, x.leftSame)
		check(t, f("o", a, f("o", b, c)), o, quoted, x.rightSame)
		check(t, f("o", f("r", a, b), c), o, quoted, x.leftXFY)
		check(t, f("o", f("z", a, b), c), o, quoted, x.onTop)
		check(t, f("o", a, f("z", b, c)), o, quoted, "a o (b z c)")
		check(t, f("f", f("o", a, b)), o, quoted, "f(a o b)")
	}
}

// P6.3: prefix and postfix operators.
func TestPrefixAndPostfixSides(t *testing.T) {
	o := ops.New()
	add(t, o, 300, "fx", "fx")
	add(t, o, 300, "fy", "fy")
	add(t, o, 300, "xf", "xf")
	add(t, o, 300, "yf", "yf")
	add(t, o, 300, "xfy", "xfy")
	add(t, o, 300, "yfx", "yfx")
	add(t, o, 299, "fy", "less")
	a, b := atom("a"), atom("b")
	for want, x := range map[string]api.Term{
		"fx a":             f("fx", a),
		"fx (fx a)":        f("fx", f("fx", a)),
		"fx less a":        f("fx", f("less", a)),
		"fx (a xf)":        f("fx", f("xf", a)),
		"fy fx a":          f("fy", f("fx", a)),
		"fy fy a":          f("fy", f("fy", a)),
		"fy a xf":          f("fy", f("xf", a)),
		"fy a xfy b":       f("fy", f("xfy", a, b)),
		"less (fy a)":      f("less", f("fy", a)),
		"a xf":             f("xf", a),
		"(a xf) xf":        f("xf", f("xf", a)),
		"less a xf":        f("xf", f("less", a)),
		"(fx a) xf":        f("xf", f("fx", a)),
		"(a yf) xf":        f("xf", f("yf", a)),
		"a xf yf":          f("yf", f("xf", a)),
		"a yf yf":          f("yf", f("yf", a)),
		"fx a yf":          f("yf", f("fx", a)),
		"(fy a) yf":        f("yf", f("fy", a)),
		"(a xfy b) yf":     f("yf", f("xfy", a, b)),
		"a yfx b yf":       f("yf", f("yfx", a, b)),
		"(fy a) yfx b":     f("yfx", f("fy", a), b),
		"fx a yfx b":       f("yfx", f("fx", a), b),
		"a yf yfx b":       f("yfx", f("yf", a), b),
		"a xf yfx b":       f("yfx", f("xf", a), b),
		"a yfx (b yf)":     f("yfx", a, f("yf", b)),
		"(fy a) xfy b":     f("xfy", f("fy", a), b),
		"a xfy fy b":       f("xfy", a, f("fy", b)),
		"a xfy b yf":       f("xfy", a, f("yf", b)),
		"- (fx a)":         f("-", f("fx", a)),
		"fx - a":           f("fx", f("-", a)),
		"- a yf":           f("yf", f("-", a)),
		"- (a xf)":         f("-", f("xf", a)),
		"fx(a,b)":          f("fx", a, b),
		"xf(a,b)":          f("xf", a, b),
		"xfy(a)":           f("xfy", a),
		"yfx(a,b,a)":       f("yfx", a, b, a),
		"fx [fx a]":        f("fx", list(f("fx", a))),
		"[fx a,a xf|a yf]": f(".", f("fx", a), f(".", f("xf", a), f("yf", a))),
	} {
		check(t, x, o, quoted, want)
	}
}

// P6.3: a name of several classes is prefix ahead of postfix; one of two is
// infix.
func TestNamesOfSeveralClasses(t *testing.T) {
	o := ops.New()
	add(t, o, 300, "fy", "p")
	add(t, o, 500, "yf", "p")
	add(t, o, 700, "xfy", "-")
	a := atom("a")
	check(t, f("p", a), o, quoted, "p a")
	check(t, f("p", f("p", a)), o, quoted, "p p a")
	check(t, f("p", f("+", a, a)), o, quoted, "p (a + a)")
	check(t, f("-", f("-", a), f("-", a, a)), o, quoted, "- a - a - a")
	check(t, f("-", f("-", a, a)), o, quoted, "- (a - a)")
	add(t, o, 0, "fy", "p")
	check(t, f("p", f("p", a)), o, quoted, "a p p")
	check(t, f("p", f("+", a, a)), o, quoted, "a + a p")
	add(t, o, 0, "fy", "-")
	check(t, f("-", num("1")), o, quoted, "-(1)")
	check(t, f("-", atom("-"), num("-1")), o, quoted, "(-) - -1")
	add(t, o, 0, "xfy", "-")
	check(t, f("-", atom("-"), num("-1")), o, quoted, "-(-,-1)")
}

// P6.3: parentheses by the priority that may stand there.
func TestWhatMayStandThere(t *testing.T) {
	o := ops.New()
	add(t, o, 999, "xfx", "low")
	add(t, o, 1200, "xfy", "top")
	a, b := atom("a"), atom("b")
	low, comma, top := f("low", a, b), f(",", a, b), f("top", a, b)
	for want, x := range map[string]api.Term{
		"a low b":                 low,
		"a,b":                     comma,
		"a top b":                 top,
		"a top a top b":           f("top", a, top),
		"f(a low b,(a,b))":        f("f", low, comma),
		"[a low b,(a,b)|a low b]": f(".", low, f(".", comma, low)),
		"[(a,b)|(a top b)]":       f(".", comma, top),
		"{a top b}":               f("{}", top),
		"'{}'({a low b},(a,b))":   f("{}", f("{}", low), comma),
		"f((a :- b))":             f("f", f(":-", a, b)),
		"f((:- a))":               f("f", f(":-", a)),
		"f(\\+ a)":                f("f", f("\\+", a)),
		"\\+ (a,b)":               f("\\+", comma),
		"\\+ a,b":                 f(",", f("\\+", a), b),
		"\\+ a = b":               f("\\+", f("=", a, b)),
		"(\\+ a) = b":             f("=", f("\\+", a), b),
		":- a,b":                  f(":-", comma),
		":- (:- a)":               f(":-", f(":-", a)),
		"(a,b),a,b":               f(",", comma, comma),
		"a :- b ; a -> b ; a":     f(":-", a, f(";", b, f(";", f("->", a, b), a))),
		"(a ; b) -> a":            f("->", f(";", a, b), a),
		"a '|' b":                 f("|", a, b),
		"f((a '|' b))":            f("f", f("|", a, b)),
		"a = - b":                 f("=", a, f("-", b)),
		"a ^ b ^ a":               f("^", a, f("^", b, a)),
		"(a ^ b) ^ a":             f("^", f("^", a, b), a),
		"(- a) ^ - b":             f("^", f("-", a), f("-", b)),
		"a ** (- 1)":              f("**", a, f("-", num("1"))),
	} {
		check(t, x, o, quoted, want)
	}
}

// P6.3: the least and the greatest priority.
func TestPrioritiesAtTheEdges(t *testing.T) {
	o := ops.New()
	add(t, o, 1, "yfx", "one")
	add(t, o, 1, "xfy", "uno")
	add(t, o, 1, "fy", "fy1")
	add(t, o, 1, "xf", "xf1")
	add(t, o, 1200, "yfx", "top")
	add(t, o, 1200, "fy", "all")
	a, b := atom("a"), atom("b")
	for want, x := range map[string]api.Term{
		"a one b one a":   f("one", f("one", a, b), a),
		"a one (b one a)": f("one", a, f("one", b, a)),
		"(a uno b) one a": f("one", f("uno", a, b), a),
		"(fy1 a) one a":   f("one", f("fy1", a), a),
		"fy1 fy1 a":       f("fy1", f("fy1", a)),
		"(a xf1) xf1":     f("xf1", f("xf1", a)),
		"a uno b uno a":   f("uno", a, f("uno", b, a)),
		"a top b top a":   f("top", f("top", a, b), a),
		"(all a) top a":   f("top", f("all", a), a),
		"all a top a":     f("all", f("top", a, a)),
		"all all a":       f("all", f("all", a)),
		"f((all a))":      f("f", f("all", a)),
		"a :- b top a":    f("top", f(":-", a, b), a),
	} {
		check(t, x, o, quoted, want)
	}
}
