package walk

import "halyard/api"

// isPlace: of expressions that are structs, those that are places.
func isPlace(n *api.Node) bool {
	switch n.Kind {
	case api.EName, api.ESel, api.EIndex:
		return true
	}
	return n.Kind == api.EUnary && n.Text == "*"
}

func (w *walker) place(n *api.Node) *box {
	switch n.Kind {
	case api.EName:
		return w.scope.find(n.Text)
	case api.ESel:
		return w.field(n)
	case api.EIndex:
		of := w.expression(&n.Kids[0])
		return element(of, w.whole(&n.Kids[1]))
	}
	return pointed(w.expression(&n.Kids[0]))
}

// held: the box of a place, or a new one with the value.
func (w *walker) held(n *api.Node) *box {
	if isPlace(n) {
		return w.place(n)
	}
	return &box{w.expression(n)}
}

// field: of a struct, or of what a pointer points to.
func (w *walker) field(n *api.Node) *box {
	of := w.expression(&n.Kids[0])
	if p, ok := of.(pointer); ok {
		of = pointed(p).value
	}
	r, _ := of.(*record)
	return r.field(n.Text)
}

func pointed(v value) *box {
	p, _ := v.(pointer)
	if p.to == nil {
		trap(api.TrapNil)
	}
	return p.to
}

func element(of value, i int) *box {
	s, _ := of.(slice)
	within(i, s.length-1)
	return &s.array[s.from+i]
}

func address(b *box) pointer {
	if r, ok := b.value.(*record); ok {
		return pointer{to: b, of: r.of}
	}
	return pointer{to: b}
}

// within traps, if a number is not from 0 to the last one.
func within(i, last int) {
	if i < 0 || i > last {
		trap(api.TrapRange)
	}
}

func length(v value) int {
	if s, ok := v.(string); ok {
		return len(s)
	}
	s, _ := v.(slice)
	return s.length
}
