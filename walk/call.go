package walk

import "halyard/api"

// call: its results.
func (w *walker) call(n *api.Node) []value {
	called, arguments := &n.Kids[0], n.Kids[1:]
	if do, ok := w.builtin(called); ok {
		return do(w, arguments)
	}
	f, given := w.called(called)
	given = append(given, w.each(arguments)...)
	if f.node == nil {
		trap(api.TrapNil)
	}
	return w.enter(f, given)
}

// called: the function; of a method the receiver too.
func (w *walker) called(n *api.Node) (function, []value) {
	if n.Kind == api.ESel {
		return w.member(n)
	}
	f, _ := w.expression(n).(function)
	return f, nil
}

// member: a method, or a function that a field has.
func (w *walker) member(n *api.Node) (function, []value) {
	p := receiver(w.held(&n.Kids[0]))
	if method, ok := p.of.methods[n.Text]; ok {
		return function{node: method}, []value{p}
	}
	r, _ := pointed(p).value.(*record)
	f, _ := r.field(n.Text).value.(function)
	return f, nil
}

func receiver(at *box) pointer {
	switch v := at.value.(type) {
	case pointer:
		return v
	case dynamic:
		if v.of == nil {
			trap(api.TrapNil)
		}
		return v.pointer
	}
	return address(at)
}

// enter calls a function that is not nil.
func (w *walker) enter(f function, given []value) []value {
	w.step()
	if w.calls == api.MaxFrames {
		panic(stop{end: api.NoStack})
	}
	// Of a declaration as of a literal, the signature and the block stand last; a method has its receiver ahead of them.
	last := len(f.node.Kids) - 1
	receiver, signature, body := f.node.Kids[:last-1], &f.node.Kids[last-1], &f.node.Kids[last]
	outer := w.scope
	w.scope = f.scope
	w.calls++
	w.parameters(receiver, given)
	w.parameters(signature.Kids[:signature.Num], given[len(receiver):])
	out := w.leaving(signature.Kids[signature.Num:], w.block(body))
	w.calls--
	w.scope = outer
	return out
}

func (w *walker) parameters(list []api.Node, given []value) {
	for i := range list {
		w.declare(list[i].Text, w.fitted(&list[i].Kids[0], given[i]))
	}
}

// leaving: a call's results. A block that ends may still be gone through, for a variable may be named panic: then they are zero.
func (w *walker) leaving(types []api.Node, last end) []value {
	out := make([]value, len(types))
	for i := range types {
		if last == returned {
			out[i] = w.fitted(&types[i], w.results[i])
		} else {
			out[i] = w.zero(&types[i])
		}
	}
	return out
}
