package check

import "halyard/api"

func (c checker) block(n api.Node) {
	c.scope = c.scope.inner()
	for _, statement := range n.Kids {
		c.statement(statement)
	}
}

func (c checker) statement(n api.Node) {
	switch n.Kind {
	case api.SBlock:
		c.block(n)
	case api.SVar:
		c.variable(n)
	case api.SDefine:
		c.define(n.Kids[:n.Num], n.Kids[n.Num:])
	case api.SAssign:
		c.assign(n.Kids[:n.Num], n.Kids[n.Num:])
	case api.SExpr:
		c.action(n.Kids[0])
	case api.SIf:
		c.choice(n)
	case api.SFor:
		c.loop(n)
	case api.SReturn:
		c.giveEach(c.values(n.Kids, len(c.results)), c.results)
	case api.SBreak, api.SNext:
		require(c.looping)
	}
}

// variable: it is declared behind its value, which may have a name of the same text.
func (c checker) variable(n api.Node) {
	t := c.written(n.Kids[0])
	if len(n.Kids) == 2 {
		c.give(c.value(n.Kids[1]), t)
	}
	c.scope.declare(n.Text, t)
}

func (c checker) define(names, list []api.Node) {
	values := c.values(list, len(names))
	for i, n := range names {
		require(values[i].Kind != api.KNil)
		c.scope.declare(n.Text, values[i])
	}
}

func (c checker) assign(places, list []api.Node) {
	to := make([]api.Type, len(places))
	for i, n := range places {
		to[i] = c.place(n)
	}
	c.giveEach(c.values(list, len(places)), to)
}

// action: a call, whatever its results are.
func (c checker) action(call api.Node) {
	name := c.builtin(call.Kids[0])
	require(name != "len" && name != "append")
	c.call(call)
}

func (c checker) choice(n api.Node) {
	c.need(api.KBool, n.Kids[0])
	for _, branch := range n.Kids[1:] {
		c.statement(branch)
	}
}

func (c checker) loop(n api.Node) {
	last := len(n.Kids) - 1
	c.need(api.KBool, n.Kids[:last]...)
	c.looping = true
	c.block(n.Kids[last])
}
