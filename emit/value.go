package emit

import "halyard/api"

// zero of a type.
func (b *body) zero(t *typ) {
	switch kind := b.kind(t); {
	case kind == api.Word:
		b.constant(0)
	case t.isStruct():
		b.write(api.OpNew, t.class.number)
	default:
		b.write(api.OpNil, kind)
	}
}

// store takes a pointer to what holds a value of a type, and a value above it.
func (b *body) store(t *typ) {
	if t.isStruct() {
		b.fill(t.class)
	} else {
		b.write(api.OpStore, 0)
	}
}

// load takes a pointer to what holds a value of a type. A struct is told by the pointer itself.
func (b *body) load(t *typ) {
	if !t.isStruct() {
		b.write(api.OpLoad, 0)
	}
}

// mustName traps, if the pointer on the stack is nil.
func (b *body) mustName() {
	b.write(api.OpDup)
	b.write(api.OpLoad, 0)
	b.write(api.OpPop)
}

// fill takes two pointers to structs: the first one's fields get what the second one's have.
func (b *body) fill(c *class) {
	if len(c.fields) == 0 {
		b.write(api.OpPop)
		b.write(api.OpPop)
		return
	}
	kind := pointerTo(c.number)
	b.write(api.OpCall, b.helper("fill "+number(c.number), []int{kind, kind}, nil, func(b *body) {
		for i := range c.fields {
			b.get(0, 1)
			b.write(api.OpLoad, i)
			b.write(api.OpStore, i)
		}
	}))
}

// elementAt: the pointer to an array's element; what its index is the sum of is in locals.
func (b *body) elementAt(array, from, i int) {
	b.get(array, from, i)
	b.reckon(api.Add)
	b.write(api.OpElem)
}
