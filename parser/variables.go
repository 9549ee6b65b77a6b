package parser

import (
	"hornbeam/api"
	"hornbeam/tree"
)

// variables are those that a reading has met.
type variables struct {
	count int            // of all of them
	names []api.Named    // those that have a name
	times []int          // how often each of these stands
	which map[string]int // which of these has a name
}

// variable is the one that is written so.
func (v *variables) variable(name string) api.Term {
	if name == "_" {
		return tree.Var(v.next())
	}
	i, known := v.which[name]
	if !known {
		i = len(v.names)
		v.which[name] = i
		v.names = append(v.names, api.Named{Name: name, Var: v.next()})
		v.times = append(v.times, 0)
	}
	v.times[i]++
	return tree.Var(v.names[i].Var)
}

func (v *variables) next() int {
	v.count++
	return v.count - 1
}

// singles are the names of those that stand once.
func (v *variables) singles() []string {
	var out []string
	for i, named := range v.names {
		if v.times[i] == 1 {
			out = append(out, named.Name)
		}
	}
	return out
}
