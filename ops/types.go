package ops

import (
	"strings"

	"hornbeam/api"
)

// Classes of operators, in the order in which those of one name are told.
const (
	noClass = iota
	prefix
	infix
	postfix
)

func classOf(kind int) int {
	switch kind {
	case api.FX, api.FY:
		return prefix
	case api.XFX, api.XFY, api.YFX:
		return infix
	case api.XF, api.YF:
		return postfix
	}
	return noClass
}

// rival is the class of which a name may be no operator, if it is one of this
// class: behind a term either could stand, and none could tell which it is.
func rival(class int) int {
	switch class {
	case infix:
		return postfix
	case postfix:
		return infix
	}
	return noClass
}

// Sides are the greatest priorities of an operator's arguments, left and right;
// 0: it has none there.
func Sides(x api.Op) (int, int) {
	left, right, _ := strings.Cut(Word(x.Type), "f")
	return side(left, x.Priority), side(right, x.Priority)
}

// side is what a letter of a type's word says of an operator's priority.
func side(letter string, priority int) int {
	switch letter {
	case "x":
		return priority - 1
	case "y":
		return priority
	}
	return 0
}

// words are those of the types; the number 0, which is no type's, has the empty
// one, which is no type's either.
var words = [...]string{api.FX: "fx", api.FY: "fy", api.XFX: "xfx", api.XFY: "xfy", api.YFX: "yfx", api.XF: "xf", api.YF: "yf"}

// Type is the type of a word such as xfx; 0: it is none.
func Type(word string) int {
	for kind, known := range words {
		if known == word {
			return kind
		}
	}
	return 0
}

// Word is the word of a type; the empty text of none.
func Word(kind int) string {
	if kind < 0 || kind >= len(words) {
		return ""
	}
	return words[kind]
}
