package emit

import (
	"strconv"

	"halyard/api"
)

// expr is an expression that was read.
type expr struct {
	t       *typ // of its one value; nil, if it has another number of values
	all     []*typ
	value   put // its values come to be on the stack; of a struct it may be the place's own pointer
	address put // of a place: the pointer to what holds its value
	named   *variable
}

func one(t *typ, value put) expr { return expr{t: t, all: []*typ{t}, value: value} }

func (r *reader) number(value put) expr { return one(r.plain(api.KInt), value) }

func (r *reader) truth(value put) expr { return one(r.plain(api.KBool), value) }

func (r *reader) expr(n api.Node) expr {
	switch n.Kind {
	case api.EInt:
		return r.number(func(b *body) { b.constant(n.Num) })
	case api.EBool:
		return r.truth(func(b *body) { b.constant(n.Num) })
	case api.EStr:
		return one(r.plain(api.KStr), func(b *body) { b.literalText(n.Text) })
	case api.ENil:
		return one(r.plain(api.KNil), nil)
	case api.EName:
		return r.name(n)
	case api.ELit:
		return r.literal(n)
	case api.EList:
		return r.list(n)
	case api.EFunc:
		return r.closure(n)
	case api.ESel:
		return selection(r.expr(n.Kids[0]), n.Text)
	case api.EIndex:
		return r.index(n)
	case api.ECut:
		return r.cut(n)
	case api.ECall:
		return r.call(n)
	case api.EUnary:
		return r.unary(n)
	}
	return r.binary(n)
}

func (r *reader) each(list []api.Node) []expr {
	out := make([]expr, len(list))
	for i, n := range list {
		out[i] = r.expr(n)
	}
	return out
}

// give puts a value for something new of a type: it has no struct's boxes but its own.
func (b *body) give(e expr, to *typ) {
	if e.t.isStruct() && e.address != nil {
		b.write(api.OpNew, e.t.class.number)
		b.write(api.OpDup)
		e.value(b)
		b.fill(e.t.class)
		return
	}
	b.lend(e, to)
}

// lend puts a value of a type that is not kept, so that a struct may be a place's own.
func (b *body) lend(e expr, to *typ) {
	if e.t.kind == api.KNil {
		b.write(api.OpNil, b.kind(to))
		return
	}
	e.value(b)
	b.convert(e.t, to)
}

// convert what is on the stack: of the types that differ, a pointer comes to an interface alone.
func (b *body) convert(from, to *typ) {
	if from != to {
		b.write(api.OpBox)
	}
}

func (r *reader) name(n api.Node) expr {
	v := r.variable(n.Text)
	if v == nil {
		u := r.functions[n.Text]
		return one(u.t, func(b *body) { b.function(u) })
	}
	e := one(v.t, func(b *body) { b.value(v) })
	e.address, e.named = func(b *body) { b.fetch(v) }, v
	return e
}

// function: the value that a unit is, with what it brings along.
func (b *body) function(u *unit) {
	tag := b.tag(u)
	if len(u.captured) == 0 {
		b.write(api.OpNil, pointerTo(tag))
	} else {
		b.write(api.OpNew, tag)
	}
	for i, v := range u.captured {
		b.write(api.OpDup)
		b.fetch(v)
		b.write(api.OpStore, i)
	}
	b.write(api.OpBox)
	b.item(u)
}

func (r *reader) closure(n api.Node) expr {
	u := newUnit(r.written(n.Kids[0]), r.unit)
	inner := &reader{world: r.world, unit: u, scope: r.scope}
	inner.enter()
	inner.function(n.Kids[0], n.Kids[1])
	return one(u.t, func(b *body) { b.function(u) })
}

func (r *reader) literal(n api.Node) expr {
	c := r.named[n.Text]
	fields := r.each(n.Kids)
	return one(c.t, func(b *body) {
		b.write(api.OpNew, c.number)
		for i, e := range fields {
			b.write(api.OpDup)
			b.give(e, c.fields[i].t)
			b.write(api.OpStore, i)
		}
	})
}

func (r *reader) list(n api.Node) expr {
	t := r.written(n.Kids[0])
	list := r.each(n.Kids[1:])
	return one(r.over(api.KSlice, t), func(b *body) {
		if len(list) > api.MaxLen {
			b.tooLong(list, t)
			return
		}
		b.array(list, t)
		b.constant(0)
		b.constant(len(list))
		b.write(api.OpCall, b.makeHead(t))
	})
}

// tooLong: what the values do is done ahead of the trap.
func (b *body) tooLong(list []expr, t *typ) {
	for _, e := range list {
		b.lend(e, t)
		b.write(api.OpPop)
	}
	b.trap(api.TrapLarge)
}

// array of values; nil, if there are none.
func (b *body) array(list []expr, t *typ) {
	if len(list) == 0 {
		b.write(api.OpNil, arrayOf(b.element(t)))
		return
	}
	b.constant(len(list))
	b.write(api.OpMake, b.element(t))
	for i, e := range list {
		b.write(api.OpDup)
		b.constant(i)
		b.write(api.OpElem)
		b.lend(e, t)
		b.store(t)
	}
}

// selection: a field of a struct, or of what a pointer names.
func selection(of expr, name string) expr {
	fields := of.t.owner().fields
	i := place(fields, name)
	t := fields[i].t
	e := one(t, func(b *body) {
		of.value(b)
		b.write(api.OpLoad, i)
	})
	if of.address != nil || of.t.kind == api.KPtr {
		e.address = func(b *body) {
			of.value(b)
			b.write(api.OpAddr, i, b.element(t))
		}
	}
	return e
}

func (r *reader) index(n api.Node) expr {
	of, i := r.expr(n.Kids[0]), r.expr(n.Kids[1])
	if of.t.kind == api.KStr {
		return r.number(func(b *body) {
			of.value(b)
			i.value(b)
			b.write(api.OpCall, b.textByte())
		})
	}
	t := of.t.kids[0]
	address := func(b *body) {
		of.value(b)
		i.value(b)
		b.write(api.OpCall, b.elementOf(t))
	}
	return held(t, address)
}

// held: what a pointer points to.
func held(t *typ, address put) expr {
	e := one(t, func(b *body) {
		address(b)
		b.load(t)
	})
	e.address = address
	return e
}

func (r *reader) cut(n api.Node) expr {
	of := r.expr(n.Kids[0])
	bounds := r.each(n.Kids[1:])
	from := func(b *body) { b.constant(0) }
	if n.Num&1 != 0 {
		from = bounds[0].value
	}
	if n.Num&2 == 0 {
		return rest(of, from)
	}
	return one(of.t, func(b *body) {
		of.value(b)
		from(b)
		bounds[len(bounds)-1].value(b)
		b.write(api.OpCall, b.cutter(of.t))
	})
}

// rest: what is cut off goes to the end.
func rest(of expr, from put) expr {
	return one(of.t, func(b *body) {
		of.value(b)
		b.write(api.OpDup)
		whole := b.keep(b.kind(of.t))
		from(b)
		b.get(whole)
		b.length(of.t)
		b.release(whole)
		b.write(api.OpCall, b.cutter(of.t))
	})
}

func number(n int) string { return strconv.Itoa(n) }
