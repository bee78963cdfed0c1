package check

import (
	"halyard/api"
	"halyard/types"
)

// isBuiltin: is it the name of a call that every program has?
func isBuiltin(name string) bool {
	switch name {
	case "print", "panic", "len", "append":
		return true
	}
	return false
}

// builtin: the name of the call that every program has, if that is what an expression means; else none. (No function has such a name, but a variable may.)
func (c checker) builtin(n api.Node) string {
	if n.Kind != api.EName || !isBuiltin(n.Text) {
		return ""
	}
	if _, hidden := c.scope.find(n.Text); hidden {
		return ""
	}
	return n.Text
}

// call: the types of its results.
func (c checker) call(n api.Node) []api.Type {
	called, arguments := n.Kids[0], n.Kids[1:]
	if name := c.builtin(called); name != "" {
		return c.builtinCall(name, arguments)
	}
	t := c.called(called)
	require(t.Kind == api.KFunc)
	c.giveEach(c.each(arguments), t.Kids[:t.Num])
	return t.Kids[t.Num:]
}

// called: the type of what is called, a method's too.
func (c checker) called(n api.Node) api.Type {
	if n.Kind != api.ESel {
		return c.value(n)
	}
	of, isPlace := c.expression(n.Kids[0])
	method, ok := types.Method(c.table, of, n.Text)
	if !ok {
		return c.field(of, n.Text)
	}
	require(isPlace || !c.isStruct(of))
	return method
}

func (c checker) builtinCall(name string, arguments []api.Node) []api.Type {
	list := c.each(arguments)
	if name == "append" {
		require(len(list) == 2 && list[0].Kind == api.KSlice)
		c.give(list[1], list[0].Kids[0])
		return list[:1]
	}
	require(len(list) == 1)
	kind := list[0].Kind
	switch name {
	case "print":
		require(kind == api.KInt || kind == api.KBool || kind == api.KStr)
		return nil
	case "panic":
		require(kind == api.KInt)
		return nil
	}
	require(kind == api.KStr || kind == api.KSlice)
	return []api.Type{plain(api.KInt)}
}
