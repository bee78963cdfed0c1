package check

import (
	"halyard/api"
	"halyard/types"
)

func (c checker) unary(n api.Node) api.Type {
	operand := n.Kids[0]
	switch n.Text {
	case "-":
		c.need(api.KInt, operand)
		return plain(api.KInt)
	case "!":
		c.need(api.KBool, operand)
		return plain(api.KBool)
	case "*":
		t := c.value(operand)
		require(t.Kind == api.KPtr)
		return t.Kids[0]
	}
	t, isPlace := c.expression(operand)
	require(isPlace || operand.Kind == api.ELit)
	return api.Type{Kind: api.KPtr, Kids: []api.Type{t}}
}

func (c checker) binary(n api.Node) api.Type {
	a, b := c.value(n.Kids[0]), c.value(n.Kids[1])
	switch n.Text {
	case "==", "!=":
		require(types.Comparable(c.table, a, b))
		return plain(api.KBool)
	case "<", "<=", ">", ">=":
		require(both(a, b, api.KInt) || both(a, b, api.KStr))
		return plain(api.KBool)
	case "&&", "||":
		require(both(a, b, api.KBool))
		return plain(api.KBool)
	case "+":
		require(both(a, b, api.KInt) || both(a, b, api.KStr))
		return a
	}
	require(both(a, b, api.KInt))
	return a
}

func both(a, b api.Type, kind int) bool { return a.Kind == kind && b.Kind == kind }
