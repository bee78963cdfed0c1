package walk

import "halyard/api"

// end tells how a statement ended.
type end int

const (
	passed end = iota
	broken
	resumed
	returned
)

func statements() map[int]func(*walker, *api.Node) end {
	return map[int]func(*walker, *api.Node) end{
		api.SBlock:  (*walker).block,
		api.SVar:    (*walker).variable,
		api.SDefine: (*walker).define,
		api.SAssign: (*walker).assign,
		api.SExpr:   (*walker).action,
		api.SIf:     (*walker).choice,
		api.SFor:    (*walker).loop,
		api.SReturn: (*walker).leave,
		api.SBreak:  (*walker).breakOff,
		api.SNext:   (*walker).resume,
	}
}

func (w *walker) statement(n *api.Node) end {
	if n.Kind != api.SBlock {
		w.step()
	}
	return w.statements[n.Kind](w, n)
}

func (w *walker) block(n *api.Node) end {
	outer := w.scope
	last := passed
	for i := 0; i < len(n.Kids) && last == passed; i++ {
		last = w.statement(&n.Kids[i])
	}
	w.scope = outer
	return last
}

func (w *walker) variable(n *api.Node) end {
	t := &n.Kids[0]
	if len(n.Kids) == 2 {
		w.declare(n.Text, w.fitted(t, w.taken(&n.Kids[1])))
	} else {
		w.declare(n.Text, w.zero(t))
	}
	return passed
}

func (w *walker) define(n *api.Node) end {
	for i, v := range w.values(n.Kids[n.Num:]) {
		w.declare(n.Kids[i].Text, v)
	}
	return passed
}

func (w *walker) assign(n *api.Node) end {
	places := make([]*box, n.Num)
	for i := range places {
		places[i] = w.place(&n.Kids[i])
	}
	for i, v := range w.values(n.Kids[n.Num:]) {
		places[i].give(v)
	}
	return passed
}

func (w *walker) action(n *api.Node) end {
	w.call(&n.Kids[0])
	return passed
}

func (w *walker) choice(n *api.Node) end {
	if w.holds(&n.Kids[0]) {
		return w.block(&n.Kids[1])
	}
	if len(n.Kids) == 3 {
		return w.statement(&n.Kids[2])
	}
	return passed
}

func (w *walker) loop(n *api.Node) end {
	body := len(n.Kids) - 1
	for {
		w.step()
		if body > 0 && !w.holds(&n.Kids[0]) {
			return passed
		}
		switch w.block(&n.Kids[body]) {
		case broken:
			return passed
		case returned:
			return returned
		}
	}
}

func (w *walker) leave(n *api.Node) end {
	w.results = w.values(n.Kids)
	return returned
}

func (w *walker) breakOff(*api.Node) end { return broken }

func (w *walker) resume(*api.Node) end { return resumed }
