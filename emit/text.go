package emit

import "halyard/api"

// A text is an array of its bytes, which is never changed once it is made. One without bytes may be nil.

func (b *body) literalText(s string) {
	if s == "" {
		b.write(api.OpNil, b.text())
		return
	}
	b.write(api.OpStr, b.textNumber(s), b.box(api.Word))
}

// textByte: of a text, the byte at an index.
func (b *body) textByte() int {
	return b.helper("byte", []int{b.text(), api.Word}, []int{api.Word}, func(b *body) {
		b.requireIndex(1, func() { b.textLength(0) })
		b.byteOf(0, 1)
	})
}

func (b *body) textLength(text int) {
	b.get(text)
	b.write(api.OpLen)
}

// byteOf a text, both in locals; the index is within it.
func (b *body) byteOf(text, i int) {
	b.get(text, i)
	b.write(api.OpElem)
	b.write(api.OpLoad, 0)
}

// mover: to a text at an index, from another one at an index, so many bytes.
func (b *body) mover() int {
	const to, at, from, first, count = 0, 1, 2, 3, 4
	return b.helper("move", []int{b.text(), api.Word, b.text(), api.Word, api.Word}, nil, func(b *body) {
		b.count(func() { b.get(count) }, func(i int) {
			b.elementAt(to, at, i)
			b.elementAt(from, first, i)
			b.write(api.OpLoad, 0)
			b.write(api.OpStore, 0)
		})
	})
}

// joiner: of two texts the one that they are together.
func (b *body) joiner() int {
	return b.helper("join", []int{b.text(), b.text()}, []int{b.text()}, func(b *body) {
		b.textLength(0)
		b.textLength(1)
		b.reckon(api.Add)
		b.write(api.OpMake, b.box(api.Word))
		whole := b.keep(b.text())
		b.get(whole)
		b.constant(0)
		b.wholeText(0)
		b.write(api.OpCall, b.mover())
		b.get(whole)
		b.textLength(0)
		b.wholeText(1)
		b.write(api.OpCall, b.mover())
		b.get(whole)
	})
}

// wholeText: a text, its first index and its length.
func (b *body) wholeText(text int) {
	b.get(text)
	b.constant(0)
	b.textLength(text)
}

// textCutter: of a text, what is from one index to ahead of another one.
func (b *body) textCutter() int {
	const text, from, to = 0, 1, 2
	return b.helper("cut", []int{b.text(), api.Word, api.Word}, []int{b.text()}, func(b *body) {
		b.requireCut(from, to, func() { b.textLength(text) })
		b.get(to, from)
		b.reckon(api.Sub)
		b.write(api.OpMake, b.box(api.Word))
		piece := b.keep(b.text())
		b.get(piece)
		b.constant(0)
		b.get(text, from)
		b.textLength(piece)
		b.write(api.OpCall, b.mover())
		b.get(piece)
	})
}

// sameTexts: have two texts the same bytes?
func (b *body) sameTexts() int {
	return b.helper("same", []int{b.text(), b.text()}, []int{api.Word}, func(b *body) {
		b.textLength(0)
		b.textLength(1)
		b.reckon(api.Eq)
		b.orAnswer(0)
		b.count(func() { b.textLength(0) }, func(i int) {
			b.byteOf(0, i)
			b.byteOf(1, i)
			b.reckon(api.Eq)
			b.orAnswer(0)
		})
		b.constant(1)
	})
}

// textBelow: is the first one of two texts below the second one, by bytes?
func (b *body) textBelow() int {
	return b.helper("below", []int{b.text(), b.text()}, []int{api.Word}, func(b *body) {
		b.count(func() { b.textLength(0) }, func(i int) {
			b.get(i)
			b.textLength(1)
			b.reckon(api.Lt)
			b.orAnswer(0)
			b.byteOf(1, i)
			b.byteOf(0, i)
			b.reckon(api.Lt)
			b.not()
			b.orAnswer(0)
			b.byteOf(0, i)
			b.byteOf(1, i)
			b.reckon(api.Eq)
			b.orAnswer(1)
		})
		b.textLength(0)
		b.textLength(1)
		b.reckon(api.Lt)
	})
}

// textPrinter: a text and the end of the line.
func (b *body) textPrinter() int {
	return b.helper("print text", []int{b.text()}, nil, func(b *body) {
		b.count(func() { b.textLength(0) }, func(i int) {
			b.byteOf(0, i)
			b.write(api.OpPut)
		})
		b.putBytes("\n")
	})
}

func (b *body) truthPrinter() int {
	return b.helper("print truth", []int{api.Word}, nil, func(b *body) {
		b.get(0)
		b.choose(func() { b.putBytes("true\n") }, func() { b.putBytes("false\n") })
	})
}

func (b *body) putBytes(s string) {
	for i := range len(s) {
		b.constant(int(s[i]))
		b.write(api.OpPut)
	}
}
