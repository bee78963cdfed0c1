package closure

import "halyard/api"

// known is a name of a function, and the node that it is there.
type known struct {
	name string
	node api.Closed
}

// converter has the functions that have begun till now.
type converter struct{ list []api.Body }

// closedFunctions: of a term in which no name stands free.
func closedFunctions(t *api.Term) []api.Body {
	c := converter{list: make([]api.Body, 1)}
	c.list[0].Expr = c.closed(t, nil, 0)
	return c.list
}

// closed: a node of a function whose names are here, in the second of so many of its MLets.
func (c *converter) closed(t *api.Term, here *scope[known], lets int) api.Closed {
	switch t.Op {
	case api.MVar:
		return meaning(here, t.Name)
	case api.MNum:
		return api.Closed{Op: api.CNum, Num: t.Num}
	case api.MLam:
		return c.function(t, here)
	}
	out := api.Closed{Op: closedOp(t.Op)}
	for i := range t.Kids {
		inside, around := here, lets
		if binds(t, i) {
			inside = here.with(known{t.Name, api.Closed{Op: api.CLocal, Num: lets}})
			around++
		}
		out.Kids = append(out.Kids, c.closed(&t.Kids[i], inside, around))
	}
	return out
}

// closedOp: of a node that stays what it is.
func closedOp(op int) int {
	switch op {
	case api.MApp:
		return api.CApp
	case api.MAdd:
		return api.CAdd
	case api.MLet:
		return api.CLet
	}
	return api.CIf
}

// function: an MLam becomes a function, and where it stood there is a CMake.
func (c *converter) function(t *api.Term, here *scope[known]) api.Closed {
	out := api.Closed{Op: api.CMake, Num: len(c.list)}
	var inside *scope[known]
	for i, name := range freeNames(t) {
		out.Kids = append(out.Kids, meaning(here, name))
		inside = inside.with(known{name, api.Closed{Op: api.CEnv, Num: i}})
	}
	c.list = append(c.list, api.Body{Env: len(out.Kids)})
	inside = inside.with(known{t.Name, api.Closed{Op: api.CParam}})
	expr := c.closed(&t.Kids[0], inside, 0)
	c.list[out.Num].Expr = expr
	return out
}

// meaning: what a name is, which is always known: none stands free in the whole.
func meaning(here *scope[known], name string) api.Closed {
	return here.at(here.find(func(k known) bool { return k.name == name })).node
}
