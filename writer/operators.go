package writer

import (
	"hornbeam/api"
	"hornbeam/ops"
)

// operator is the one by which a compound is written; false: by none.
func (p *pen) operator(t api.Term) (api.Op, bool) {
	if t.Kind != api.Compound || p.how.IgnoreOps || p.isLetter(t) || p.isList(t) {
		return api.Op{}, false
	}
	switch len(t.Args) {
	case 1:
		if x, is := p.ops.Prefix(t.Name); is {
			return x, true
		}
		return p.ops.Postfix(t.Name)
	case 2:
		return p.ops.Infix(t.Name)
	}
	return api.Op{}, false
}

// operation writes a compound by an operator.
func (p *pen) operation(t api.Term, x api.Op) {
	_, right := ops.Sides(x)
	name := p.name(t.Name)
	switch x.Type {
	case api.FX, api.FY:
		p.put(name, " ")
		p.term(t.Args[0], right, true)
	case api.XF, api.YF:
		p.left(t.Args[0], x)
		p.put(" ", name)
	default:
		p.left(t.Args[0], x)
		if t.Name == "," {
			p.put(",")
		} else {
			p.put(" ", name, " ")
		}
		p.term(t.Args[1], right, true)
	}
}

// left writes what stands ahead of an operator.
func (p *pen) left(t api.Term, x api.Op) {
	most, _ := ops.Sides(x)
	// What reaches as far to the right as its own priority would take up this
	// operator, too.
	if own, is := p.operator(t); is && own.Priority == x.Priority && (own.Type == api.XFY || own.Type == api.FY) {
		most = x.Priority - 1
	}
	p.term(t, most, true)
}
