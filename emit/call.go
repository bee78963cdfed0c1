package emit

import "halyard/api"

func (r *reader) call(n api.Node) expr {
	called, arguments := n.Kids[0], n.Kids[1:]
	if called.Kind == api.ESel {
		return r.member(called, arguments)
	}
	if called.Kind == api.EName && r.scope.find(called.Text) == nil {
		if u := r.functions[called.Text]; u != nil {
			return r.direct(u, nil, arguments)
		}
		return r.builtin(called.Text, r.each(arguments))
	}
	return r.through(r.expr(called), arguments)
}

// answers: what a call of a function type has.
func answers(t *typ, value put) expr {
	e := expr{all: t.results(), value: value}
	if len(e.all) == 1 {
		e.t = e.all[0]
	}
	return e
}

func (b *body) arguments(list []expr, t *typ) {
	for i, e := range list {
		b.give(e, t.kids[i])
	}
}

// direct call of a unit; receiver, if it is a method, puts what it is called of.
func (r *reader) direct(u *unit, receiver put, arguments []api.Node) expr {
	list := r.each(arguments)
	return answers(u.t, func(b *body) {
		if receiver != nil {
			receiver(b)
		}
		b.arguments(list, u.t)
		b.write(api.OpCall, b.module.function(u, direct))
	})
}

// member: a method, or a function that a field has.
func (r *reader) member(n api.Node, arguments []api.Node) expr {
	of := r.expr(n.Kids[0])
	c := of.t.owner()
	if i := place(c.asked, n.Text); i >= 0 {
		return r.dynamic(of, c, i, arguments)
	}
	u := c.methods[n.Text]
	if u == nil {
		return r.through(selection(of, n.Text), arguments)
	}
	receiver := of.value
	if of.t.isStruct() {
		receiver = of.address
	}
	return r.direct(u, receiver, arguments)
}

// dynamic call of an interface's method.
func (r *reader) dynamic(of expr, c *class, asked int, arguments []api.Node) expr {
	list := r.each(arguments)
	t := c.asked[asked].t
	return answers(t, func(b *body) {
		of.value(b)
		receiver := b.keep(api.Any)
		b.requireSome(receiver)
		b.arguments(list, t)
		b.dispatch(receiver, b.methods(c, asked))
	})
}

// through a value that is a function: whether it is nil is looked at behind the arguments.
func (r *reader) through(called expr, arguments []api.Node) expr {
	list := r.each(arguments)
	return answers(called.t, func(b *body) {
		called.value(b)
		function := b.keep(api.Any)
		b.arguments(list, called.t)
		b.requireSome(function)
		b.dispatch(function, b.values(called.t))
	})
}

// requireSome traps, if the Any of a local is nil.
func (b *body) requireSome(local int) {
	b.constant(-1)
	b.get(local)
	b.write(api.OpTag)
	b.reckon(api.Lt)
	b.require(api.TrapNil)
}

// dispatch: the tag of the Any of a local tells which function is called; the Any is handed to it too.
func (b *body) dispatch(local int, d *dispatch) {
	b.get(local)
	b.get(local)
	b.write(api.OpTag)
	b.write(api.OpDyn, d.number)
	b.release(local)
}

func (r *reader) builtin(name string, list []expr) expr {
	switch name {
	case "print":
		return expr{value: func(b *body) { b.print(list[0]) }}
	case "panic":
		return expr{value: func(b *body) {
			list[0].value(b)
			b.write(api.OpTrap, api.TrapPanic)
		}}
	case "len":
		return r.number(func(b *body) {
			list[0].value(b)
			b.length(list[0].t)
		})
	}
	return one(list[0].t, func(b *body) {
		list[0].value(b)
		b.lend(list[1], list[0].t.kids[0])
		b.write(api.OpCall, b.appender(list[0].t.kids[0]))
	})
}

func (b *body) print(e expr) {
	e.value(b)
	switch e.t.kind {
	case api.KStr:
		b.write(api.OpCall, b.textPrinter())
	case api.KBool:
		b.write(api.OpCall, b.truthPrinter())
	default:
		b.write(api.OpOut)
		b.constant('\n')
		b.write(api.OpPut)
	}
}

// length of what is on the stack, which is a string or a slice.
func (b *body) length(t *typ) {
	if t.kind == api.KStr {
		b.write(api.OpLen)
	} else {
		b.write(api.OpCall, b.sliceLength(t.kids[0]))
	}
}
