package emit

import "halyard/api"

func (r *reader) unary(n api.Node) expr {
	of := r.expr(n.Kids[0])
	switch n.Text {
	case "-":
		return r.number(func(b *body) {
			b.constant(0)
			of.value(b)
			b.reckon(api.Sub)
		})
	case "!":
		return r.truth(func(b *body) {
			of.value(b)
			b.not()
		})
	case "&":
		return r.address(of)
	}
	return pointed(of)
}

// pointed: what a pointer names.
func pointed(of expr) expr {
	t := of.t.kids[0]
	e := held(t, func(b *body) {
		of.value(b)
		b.mustName()
	})
	if !t.isStruct() {
		// Reading it traps by itself.
		e.value = func(b *body) {
			of.value(b)
			b.load(t)
		}
	}
	return e
}

// address: of a place, or of a new struct.
func (r *reader) address(of expr) expr {
	if of.named != nil {
		of.named.moved = true
	}
	if of.address == nil {
		of.address = of.value
	}
	return one(r.over(api.KPtr, of.t), of.address)
}

func (b *body) not() {
	b.constant(0)
	b.reckon(api.Eq)
}

func (r *reader) binary(n api.Node) expr {
	x, y := r.expr(n.Kids[0]), r.expr(n.Kids[1])
	switch n.Text {
	case "&&", "||":
		return r.truth(func(b *body) { b.both(n.Text, x, y) })
	case "==":
		return r.truth(func(b *body) { b.same(x, y) })
	case "!=":
		return r.truth(func(b *body) {
			b.same(x, y)
			b.not()
		})
	case "<", "<=", ">", ">=":
		return r.truth(func(b *body) { b.ordered(n.Text, x, y) })
	}
	return one(x.t, func(b *body) {
		x.value(b)
		y.value(b)
		if x.t.kind == api.KStr {
			b.write(api.OpCall, b.joiner())
		} else {
			b.reckon(reckoning(n.Text))
		}
	})
}

func reckoning(operator string) int {
	switch operator {
	case "+":
		return api.Add
	case "-":
		return api.Sub
	case "*":
		return api.Mul
	case "/":
		return api.Div
	}
	return api.Mod
}

// both: the second one is looked at only if need be.
func (b *body) both(operator string, x, y expr) {
	x.value(b)
	second := func() { y.value(b) }
	if operator == "&&" {
		b.choose(second, func() { b.constant(0) })
	} else {
		b.choose(func() { b.constant(1) }, second)
	}
}

func (b *body) same(x, y expr) {
	if x.t.kind == api.KNil {
		x, y = y, x
	}
	x.value(b)
	b.lend(y, x.t)
	switch x.t.kind {
	case api.KInt, api.KBool:
		b.reckon(api.Eq)
	case api.KStr:
		b.write(api.OpCall, b.sameTexts())
	default:
		b.write(api.OpSame)
	}
}

// ordered: all is told by what is below what. Where the second is to be below the first, the first one waits in a local.
func (b *body) ordered(operator string, x, y expr) {
	x.value(b)
	if operator == ">" || operator == "<=" {
		first := b.keep(b.kind(x.t))
		y.value(b)
		b.get(first)
		b.release(first)
	} else {
		y.value(b)
	}
	if x.t.kind == api.KStr {
		b.write(api.OpCall, b.textBelow())
	} else {
		b.reckon(api.Lt)
	}
	if operator == "<=" || operator == ">=" {
		b.not()
	}
}
