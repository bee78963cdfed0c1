package emit

import "halyard/api"

// putUnit: the machine's function for a unit and a way to call it.
func (m *module) putUnit(u *unit, by way) api.Func {
	var params []int
	if by == direct && u.receiver != nil {
		params = append(params, m.kind(u.receiver.t))
	}
	first := len(params)
	params = append(params, m.kinds(u.t.kids[:u.t.params])...)
	if by == asItem {
		params = append(params, api.Any)
	}
	b := newBody(m, u, params)
	if by == asItem {
		b.open(len(params) - 1)
	} else if u.receiver != nil {
		b.seat(u.receiver, 0)
	}
	for i, v := range u.params {
		b.seat(v, first+i)
	}
	u.body(b)
	for _, t := range u.t.results() {
		b.zero(t)
	}
	b.write(api.OpRet)
	return b.done(m.kinds(u.t.results()))
}

// open what a table's item is handed last: a method's receiver, or what a literal brings along.
func (b *body) open(local int) {
	switch u := b.unit; {
	case u.receiver != nil:
		b.get(local)
		b.write(api.OpUnbox, u.receiver.t.kids[0].class.number)
		b.bind(u.receiver)
	case len(u.captured) > 0:
		b.get(local)
		b.write(api.OpUnbox, b.tag(u))
		b.env = b.keep(pointerTo(b.tag(u)))
	}
}

// seat of a parameter, which a local has already.
func (b *body) seat(v *variable, local int) {
	if v.isBoxed() {
		b.get(local)
		b.bind(v)
	} else {
		b.seats[v] = local
	}
}

// bind: what is on the stack is a new variable's value.
func (b *body) bind(v *variable) {
	if v.isBoxed() {
		kind := b.kind(v.t)
		value := b.keep(kind)
		b.write(api.OpNew, b.box(kind))
		b.write(api.OpDup)
		b.get(value)
		b.write(api.OpStore, 0)
		b.release(value)
	}
	b.seats[v] = b.keep(b.storage(v))
	b.inner = append(b.inner, b.seats[v])
}

// fetch a variable's value, or the pointer to its box, or to the struct.
func (b *body) fetch(v *variable) {
	if v.unit == b.unit {
		b.get(b.seats[v])
		return
	}
	b.get(b.env)
	b.write(api.OpLoad, b.unit.places[v])
}

func (b *body) value(v *variable) {
	b.fetch(v)
	if v.isBoxed() {
		b.write(api.OpLoad, 0)
	}
}

// within: what variables it declares are there till it is done.
func (b *body) within(do put) {
	outer := len(b.inner)
	do(b)
	for _, local := range b.inner[outer:] {
		b.release(local)
	}
	b.inner = b.inner[:outer]
}
