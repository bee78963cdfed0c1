package emit

import "halyard/api"

func (r *reader) block(n api.Node) put {
	r.enter()
	list := make([]put, len(n.Kids))
	for i, kid := range n.Kids {
		list[i] = r.statement(kid)
	}
	r.leave()
	return func(b *body) {
		b.within(func(b *body) {
			for _, p := range list {
				p(b)
			}
		})
	}
}

func (r *reader) statement(n api.Node) put {
	switch n.Kind {
	case api.SBlock:
		return r.block(n)
	case api.SVar:
		return r.variableStatement(n)
	case api.SDefine:
		return r.define(n)
	case api.SAssign:
		return r.assign(n)
	case api.SExpr:
		return r.action(n)
	case api.SIf:
		return r.choice(n)
	case api.SFor:
		return r.loop(n)
	case api.SReturn:
		return r.back(n)
	case api.SBreak:
		return (*body).breakOff
	}
	return (*body).resume
}

func (r *reader) variableStatement(n api.Node) put {
	t := r.written(n.Kids[0])
	value := func(b *body) { b.zero(t) }
	if len(n.Kids) > 1 {
		e := r.expr(n.Kids[1])
		value = func(b *body) { b.give(e, t) }
	}
	v := r.declare(n.Text, t)
	return func(b *body) {
		value(b)
		b.bind(v)
	}
}

// values that a statement has: as many expressions, or one call with as many results.
type values struct {
	types []*typ
	put   func(b *body, to []*typ)
}

func (r *reader) values(list []api.Node) values {
	all := r.each(list)
	if len(all) == 1 && len(all[0].all) > 1 {
		return values{all[0].all, func(b *body, to []*typ) {
			all[0].value(b)
			b.convertAll(all[0].all, to)
		}}
	}
	vs := values{put: func(b *body, to []*typ) {
		for i, e := range all {
			b.give(e, to[i])
		}
	}}
	for _, e := range all {
		vs.types = append(vs.types, e.t)
	}
	return vs
}

// convertAll: what lies below the last one is reached by way of locals.
func (b *body) convertAll(from, to []*typ) {
	same := true
	for i := range from {
		same = same && from[i] == to[i]
	}
	if same {
		return
	}
	for i, local := range b.keepAll(from) {
		b.get(local)
		b.convert(from[i], to[i])
		b.release(local)
	}
}

// keepAll takes values of such types from the stack, the last one first.
func (b *body) keepAll(list []*typ) []int {
	locals := make([]int, len(list))
	for i := len(list) - 1; i >= 0; i-- {
		locals[i] = b.keep(b.kind(list[i]))
	}
	return locals
}

func (r *reader) define(n api.Node) put {
	vs := r.values(n.Kids[n.Num:])
	list := make([]*variable, n.Num)
	for i, name := range n.Kids[:n.Num] {
		list[i] = r.declare(name.Text, vs.types[i])
	}
	return func(b *body) {
		vs.put(b, vs.types)
		for i := len(list) - 1; i >= 0; i-- {
			b.bind(list[i])
		}
	}
}

func (r *reader) assign(n api.Node) put {
	places := r.each(n.Kids[:n.Num])
	if n.Num == 1 {
		value := r.expr(n.Kids[1])
		return func(b *body) { b.assignOne(places[0], value) }
	}
	vs := r.values(n.Kids[n.Num:])
	return func(b *body) { b.assignAll(places, vs) }
}

// assignOne: nothing comes between the value and its giving.
func (b *body) assignOne(place, value expr) {
	if place.isLocal() {
		b.give(value, place.t)
		b.set(b.seats[place.named])
		return
	}
	place.address(b)
	b.lend(value, place.t)
	b.store(place.t)
}

// isLocal: is it a variable of which the local has the value itself?
func (e expr) isLocal() bool {
	return e.named != nil && !e.named.isBoxed() && !e.t.isStruct()
}

// assignAll: the places first, then the values, and they are given once all are there.
func (b *body) assignAll(places []expr, vs values) {
	pointers := make([]int, len(places))
	to := make([]*typ, len(places))
	for i, p := range places {
		to[i] = p.t
		if p.named == nil {
			p.address(b)
			pointers[i] = b.keep(pointerTo(b.element(p.t)))
		}
	}
	vs.put(b, to)
	for i, value := range b.keepAll(to) {
		switch p := places[i]; {
		case p.isLocal():
			b.get(value)
			b.set(b.seats[p.named])
		case p.named != nil:
			p.address(b)
			b.get(value)
			b.store(p.t)
		default:
			b.get(pointers[i])
			b.get(value)
			b.store(p.t)
			b.release(pointers[i])
		}
		b.release(value)
	}
}

func (r *reader) action(n api.Node) put {
	e := r.expr(n.Kids[0])
	return func(b *body) {
		e.value(b)
		for range e.all {
			b.write(api.OpPop)
		}
	}
}

func (r *reader) choice(n api.Node) put {
	holds := r.expr(n.Kids[0])
	yes := r.block(n.Kids[1])
	no := func(*body) {}
	if len(n.Kids) > 2 {
		no = r.statement(n.Kids[2])
	}
	return func(b *body) {
		holds.value(b)
		b.choose(func() { yes(b) }, func() { no(b) })
	}
}

func (r *reader) loop(n api.Node) put {
	holds := func(b *body) { b.constant(1) }
	if len(n.Kids) > 1 {
		holds = r.expr(n.Kids[0]).value
	}
	do := r.block(n.Kids[len(n.Kids)-1])
	return func(b *body) {
		b.while(func() { holds(b) }, func() { do(b) })
	}
}

func (b *body) breakOff() {
	l := b.loops[len(b.loops)-1]
	l.ends = append(l.ends, b.ahead(api.OpJump))
}

func (b *body) resume() { b.write(api.OpJump, b.loops[len(b.loops)-1].start) }

func (r *reader) back(n api.Node) put {
	vs := r.values(n.Kids)
	return func(b *body) {
		vs.put(b, b.unit.t.results())
		b.write(api.OpRet)
	}
}
