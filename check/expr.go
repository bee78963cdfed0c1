package check

import (
	"halyard/api"
	"halyard/types"
)

// values: the types of so many values, or of as many results of one call.
func (c checker) values(list []api.Node, count int) []api.Type {
	if count > 1 && len(list) == 1 && list[0].Kind == api.ECall {
		results := c.call(list[0])
		require(len(results) == count)
		return results
	}
	require(len(list) == count)
	return c.each(list)
}

// each: the types of values.
func (c checker) each(list []api.Node) []api.Type {
	out := make([]api.Type, len(list))
	for i, n := range list {
		out[i] = c.value(n)
	}
	return out
}

func (c checker) value(n api.Node) api.Type {
	t, _ := c.expression(n)
	return t
}

func (c checker) place(n api.Node) api.Type {
	t, isPlace := c.expression(n)
	require(isPlace)
	return t
}

// need: values of a kind that has no parts.
func (c checker) need(kind int, list ...api.Node) {
	for _, n := range list {
		require(c.value(n).Kind == kind)
	}
}

// expression: the type of a value, and whether it is a place. Both are told at once, so that no part is gone through twice.
func (c checker) expression(n api.Node) (t api.Type, isPlace bool) {
	switch n.Kind {
	case api.EName:
		return c.name(n.Text)
	case api.ESel:
		return c.selection(n)
	case api.EIndex:
		return c.element(n)
	case api.EUnary:
		return c.unary(n), n.Text == "*"
	}
	return c.made(n), false
}

// made: of an expression that is no place.
func (c checker) made(n api.Node) api.Type {
	switch n.Kind {
	case api.EInt:
		return plain(api.KInt)
	case api.EStr:
		return plain(api.KStr)
	case api.EBool:
		return plain(api.KBool)
	case api.ENil:
		return plain(api.KNil)
	case api.ELit:
		return c.literal(n)
	case api.EList:
		return c.list(n)
	case api.EFunc:
		return c.function(nil, n.Kids[0], n.Kids[1])
	case api.ECut:
		return c.cut(n)
	case api.EBinary:
		return c.binary(n)
	}
	results := c.call(n)
	require(len(results) == 1)
	return results[0]
}

func plain(kind int) api.Type { return api.Type{Kind: kind} }

func (c checker) name(text string) (t api.Type, isPlace bool) {
	if t, ok := c.scope.find(text); ok {
		return t, true
	}
	t, ok := c.functions[text]
	require(ok)
	return t, false
}

func (c checker) selection(n api.Node) (t api.Type, isPlace bool) {
	of, isPlace := c.expression(n.Kids[0])
	return c.field(of, n.Text), isPlace || of.Kind == api.KPtr
}

func (c checker) element(n api.Node) (t api.Type, isPlace bool) {
	of := c.value(n.Kids[0])
	c.need(api.KInt, n.Kids[1])
	if of.Kind == api.KSlice {
		return of.Kids[0], true
	}
	require(of.Kind == api.KStr)
	return plain(api.KInt), false
}

func (c checker) cut(n api.Node) api.Type {
	of := c.value(n.Kids[0])
	require(of.Kind == api.KSlice || of.Kind == api.KStr)
	c.need(api.KInt, n.Kids[1:]...)
	return of
}

func (c checker) literal(n api.Node) api.Type {
	t := api.Type{Kind: api.KName, Name: n.Text}
	fields, ok := types.Fields(c.table, t)
	require(ok && len(n.Kids) == len(fields))
	for i, kid := range n.Kids {
		c.give(c.value(kid), fields[i].Type)
	}
	return t
}

func (c checker) list(n api.Node) api.Type {
	element := c.written(n.Kids[0])
	for _, kid := range n.Kids[1:] {
		c.give(c.value(kid), element)
	}
	return api.Type{Kind: api.KSlice, Kids: []api.Type{element}}
}
