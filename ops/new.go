package ops

import (
	"strings"

	"hornbeam/api"
)

// New is a table with the operators that are there from the beginning.
func New() *Table {
	o := &Table{ops: map[place]api.Op{}}
	for _, row := range [...]struct {
		priority, kind int
		names          string
	}{
		{1200, api.XFX, `:- -->`},
		{1200, api.FX, `:- ?-`},
		{1100, api.XFY, `; |`},
		{1050, api.XFY, `->`},
		{commaPriority, api.XFY, `,`},
		{900, api.FY, `\+`},
		{760, api.YFX, `#<==>`},
		{700, api.XFX, `= \= == \== @< @=< @> @>= =.. is =:= =\= < =< > >= in ins #= #\= #< #=< #> #>=`},
		{500, api.YFX, `+ - /\ \/`},
		{450, api.XFX, `..`},
		{400, api.YFX, `* / // rem mod div << >> xor`},
		{200, api.XFX, `**`},
		{200, api.XFY, `^`},
		{200, api.FY, `- + \`},
		{200, api.XFY, `:`},
	} {
		for _, name := range strings.Fields(row.names) {
			// Add would refuse the comma.
			o.put(api.Op{Name: name, Type: row.kind, Priority: row.priority})
		}
	}
	return o
}
