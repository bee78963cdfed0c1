package emit

import "halyard/api"

// sliceOf: the kind of slices of a type.
func (b *body) sliceOf(t *typ) int { return pointerTo(b.head(b.element(t))) }

// ofElements: a helper's name, for elements that lie in one type of the machine.
func (b *body) ofElements(name string, t *typ) string { return name + " " + number(b.element(t)) }

// makeHead: of an array, the index where a slice of it begins, and its length.
func (b *body) makeHead(t *typ) int {
	kind := b.sliceOf(t)
	return b.helper(b.ofElements("head", t), []int{arrayOf(b.element(t)), api.Word, api.Word}, []int{kind}, func(b *body) {
		b.write(api.OpNew, b.head(b.element(t)))
		made := b.keep(kind)
		for field := range headLength + 1 {
			b.get(made, field)
			b.write(api.OpStore, field)
		}
		b.get(made)
	})
}

// sliceLength: 0 of nil.
func (b *body) sliceLength(t *typ) int {
	return b.helper(b.ofElements("length", t), []int{b.sliceOf(t)}, []int{api.Word}, func(b *body) {
		b.unlessNil(0, func() { b.headField(0, headLength) }, func() { b.constant(0) })
	})
}

func (b *body) headField(head, field int) {
	b.get(head)
	b.write(api.OpLoad, field)
}

// elementOf a slice, at an index: the pointer to it.
func (b *body) elementOf(t *typ) int {
	const slice, i = 0, 1
	return b.helper(b.ofElements("element", t), []int{b.sliceOf(t), api.Word}, []int{pointerTo(b.element(t))}, func(b *body) {
		b.requireIndex(i, func() { b.lengthOf(slice, t) })
		b.headField(slice, headArray)
		b.headField(slice, headFrom)
		b.get(i)
		b.reckon(api.Add)
		b.write(api.OpElem)
	})
}

func (b *body) lengthOf(slice int, t *typ) {
	b.get(slice)
	b.write(api.OpCall, b.sliceLength(t))
}

// cutter: of a text or slice, what is from one index to ahead of another one.
func (b *body) cutter(t *typ) int {
	if t.kind == api.KStr {
		return b.textCutter()
	}
	return b.sliceCutter(t.kids[0])
}

func (b *body) sliceCutter(t *typ) int {
	const slice, from, to = 0, 1, 2
	kind := b.sliceOf(t)
	return b.helper(b.ofElements("cut", t), []int{kind, api.Word, api.Word}, []int{kind}, func(b *body) {
		b.requireCut(from, to, func() { b.lengthOf(slice, t) })
		b.unlessNil(slice, func() {
			b.headField(slice, headArray)
			b.headField(slice, headFrom)
			b.get(from)
			b.reckon(api.Add)
			b.get(to, from)
			b.reckon(api.Sub)
			b.write(api.OpCall, b.makeHead(t))
		}, func() { b.get(slice) })
	})
}

// appender: of a slice and a value, the slice with it.
func (b *body) appender(t *typ) int {
	const slice, value = 0, 1
	kind := b.sliceOf(t)
	return b.helper(b.ofElements("append", t), []int{kind, b.kind(t)}, []int{kind}, func(b *body) {
		array, from, length := b.take(arrayOf(b.element(t))), b.take(api.Word), b.take(api.Word)
		b.unlessNil(slice, func() {
			for field, local := range []int{array, from, length} {
				b.headField(slice, field)
				b.set(local)
			}
		}, func() {})
		b.get(array)
		b.write(api.OpLen)
		b.get(from)
		b.reckon(api.Sub)
		b.get(length)
		b.reckon(api.Eq)
		b.choose(func() { b.grow(t, array, from, length) }, func() {})
		b.elementAt(array, from, length)
		b.get(value)
		b.store(t)
		b.get(array, from, length)
		b.constant(1)
		b.reckon(api.Add)
		b.write(api.OpCall, b.makeHead(t))
	})
}

// grow: the array comes to be a new one with room for more than the length, and begins with the slice's elements.
func (b *body) grow(t *typ, array, from, length int) {
	b.get(length)
	b.constant(api.MaxLen)
	b.reckon(api.Lt)
	b.require(api.TrapLarge)
	b.room(length)
	b.write(api.OpMake, b.element(t))
	bigger := b.keep(arrayOf(b.element(t)))
	b.count(func() { b.get(length) }, func(i int) {
		b.get(bigger, i)
		b.write(api.OpElem)
		b.elementAt(array, from, i)
		b.load(t)
		b.store(t)
	})
	b.get(bigger)
	b.set(array)
	b.constant(0)
	b.set(from)
}

// room of a new array, for one element more.
func (b *body) room(length int) {
	const least = 4
	b.get(length)
	b.constant(least)
	b.reckon(api.Lt)
	b.choose(func() { b.constant(least) }, func() {
		b.get(length)
		b.constant(api.MaxLen / 2)
		b.reckon(api.Lt)
		b.choose(func() {
			b.get(length, length)
			b.reckon(api.Add)
		}, func() { b.constant(api.MaxLen) })
	})
}
