package check

import (
	"strings"

	"halyard/api"
	"halyard/types"
)

// declarations: of the types, in their order; not ok, if a method's type is no struct of them.
func declarations(list []api.Node) (table []api.Decl, ok bool) {
	structs := map[string]int{}
	for _, n := range list {
		switch n.Kind {
		case api.NStruct:
			structs[n.Text] = len(table)
			table = append(table, api.Decl{Name: strings.Clone(n.Text), Fields: members(n.Kids)})
		case api.NIface:
			table = append(table, api.Decl{Name: strings.Clone(n.Text), Iface: true, Methods: members(n.Kids)})
		}
	}
	for _, n := range list {
		if n.Kind != api.NMethod {
			continue
		}
		place, ok := structs[receiver(n)]
		if !ok {
			return nil, false
		}
		one := &table[place]
		one.Methods = append(one.Methods, member(n.Text, n.Kids[1]))
	}
	return table, true
}

// receiver: the name of a method's type.
func receiver(method api.Node) string {
	pointer := method.Kids[0].Kids[0]
	return pointer.Kids[0].Text
}

func members(list []api.Node) []api.Field {
	var out []api.Field
	for _, n := range list {
		out = append(out, member(n.Text, n.Kids[0]))
	}
	return out
}

func member(name string, n api.Node) api.Field {
	return api.Field{Name: strings.Clone(name), Type: typeOf(n)}
}

// typeOf: of a node that stands in a sound program, so that there is no error.
func typeOf(n api.Node) api.Type {
	t, _ := types.Of(n)
	return t
}
