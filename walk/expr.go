package walk

import "halyard/api"

func expressions() map[int]func(*walker, *api.Node) value {
	return map[int]func(*walker, *api.Node) value{
		api.EInt:    (*walker).number,
		api.EStr:    (*walker).text,
		api.EBool:   (*walker).truth,
		api.ENil:    (*walker).none,
		api.EName:   (*walker).name,
		api.ELit:    (*walker).literal,
		api.EList:   (*walker).list,
		api.EFunc:   (*walker).closure,
		api.ESel:    (*walker).selection,
		api.EIndex:  (*walker).index,
		api.ECut:    (*walker).cut,
		api.ECall:   (*walker).answer,
		api.EUnary:  (*walker).unary,
		api.EBinary: (*walker).binary,
	}
}

// expression: its value. One that is a struct is not copied: it may be a place's own.
func (w *walker) expression(n *api.Node) value { return w.expressions[n.Kind](w, n) }

// taken: an expression's value, which no place has.
func (w *walker) taken(n *api.Node) value {
	v := w.expression(n)
	if isPlace(n) {
		return copyOf(v)
	}
	return v
}

func (w *walker) each(list []api.Node) []value {
	out := make([]value, len(list))
	for i := range list {
		out[i] = w.taken(&list[i])
	}
	return out
}

// values: of as many expressions, or of one call with as many results.
func (w *walker) values(list []api.Node) []value {
	if len(list) == 1 && list[0].Kind == api.ECall {
		return w.call(&list[0])
	}
	return w.each(list)
}

func (w *walker) holds(n *api.Node) bool {
	v, _ := w.expression(n).(bool)
	return v
}

func (w *walker) whole(n *api.Node) int {
	v, _ := w.expression(n).(int)
	return v
}

func (w *walker) number(n *api.Node) value { return n.Num }

func (w *walker) text(n *api.Node) value { return n.Text }

func (w *walker) truth(n *api.Node) value { return n.Num == 1 }

func (w *walker) none(*api.Node) value { return nothing{} }

func (w *walker) name(n *api.Node) value {
	if b := w.scope.find(n.Text); b != nil {
		return b.value
	}
	return function{node: w.functions[n.Text]}
}

func (w *walker) literal(n *api.Node) value {
	of := w.structs[n.Text]
	r := &record{of: of, fields: make([]box, len(n.Kids))}
	for i, v := range w.each(n.Kids) {
		r.fields[i].value = w.fitted(&of.fields[i].Kids[0], v)
	}
	return r
}

func (w *walker) list(n *api.Node) value {
	element := &n.Kids[0]
	list := w.each(n.Kids[1:])
	if len(list) > api.MaxLen {
		trap(api.TrapLarge)
	}
	array := make([]box, len(list))
	for i, v := range list {
		array[i].value = w.fitted(element, v)
	}
	return slice{element: element, array: array, length: len(array)}
}

func (w *walker) closure(n *api.Node) value { return function{node: n, scope: w.scope} }

func (w *walker) selection(n *api.Node) value { return w.field(n).value }

func (w *walker) index(n *api.Node) value {
	of := w.expression(&n.Kids[0])
	i := w.whole(&n.Kids[1])
	if s, ok := of.(string); ok {
		within(i, len(s)-1)
		return int(s[i])
	}
	return element(of, i).value
}

func (w *walker) cut(n *api.Node) value {
	of := w.expression(&n.Kids[0])
	from, to := 0, length(of)
	bounds := n.Kids[1:]
	if n.Num&1 != 0 {
		from = w.whole(&bounds[0])
		bounds = bounds[1:]
	}
	if n.Num&2 != 0 {
		to = w.whole(&bounds[0])
	}
	within(to, length(of))
	within(from, to)
	if s, ok := of.(string); ok {
		return s[from:to]
	}
	s, _ := of.(slice)
	s.from += from
	s.length = to - from
	return s
}

// answer: of a call with one result.
func (w *walker) answer(n *api.Node) value { return w.call(n)[0] }
