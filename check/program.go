package check

import (
	"slices"

	"halyard/api"
	"halyard/types"
)

// program: what a program declares.
type program struct {
	table     []api.Decl
	functions map[string]api.Type
}

func newProgram(list []api.Node, table []api.Decl) program {
	p := program{table: table, functions: map[string]api.Type{}}
	for _, n := range list {
		if n.Kind == api.NFunc {
			_, twice := p.functions[n.Text]
			require(!twice && !isBuiltin(n.Text))
			p.functions[n.Text] = typeOf(n.Kids[0])
		}
	}
	main, ok := p.functions["main"]
	require(ok && len(main.Kids) == 0)
	return p
}

// written: the type of a node, which must be Known.
func (p program) written(n api.Node) api.Type {
	t := typeOf(n)
	require(types.Known(p.table, t))
	return t
}

// give: a value must be Assignable to a place. Types of values are made of known ones, so that the same ones need no table.
func (p program) give(from, to api.Type) {
	require(types.Same(from, to) || types.Assignable(p.table, from, to))
}

func (p program) giveEach(from, to []api.Type) {
	require(len(from) == len(to))
	for i, t := range from {
		p.give(t, to[i])
	}
}

// isStruct: is it a struct itself, and no pointer to one?
func (p program) isStruct(t api.Type) bool {
	_, ok := types.Fields(p.table, t)
	return ok && t.Kind == api.KName
}

// field: of a struct, or of a pointer to one.
func (p program) field(t api.Type, name string) api.Type {
	fields, _ := types.Fields(p.table, t)
	place := slices.IndexFunc(fields, func(f api.Field) bool { return f.Name == name })
	require(place >= 0)
	return fields[place].Type
}
