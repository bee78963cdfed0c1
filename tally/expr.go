package tally

import (
	"maps"
	"slices"

	"halyard/api"
)

func (r *second) values(list []api.Node) []worth {
	if len(list) == 1 && list[0].Kind == api.ECall {
		return r.call(list[0])
	}
	return r.each(list)
}

func (r *second) each(list []api.Node) []worth {
	var out []worth
	for _, n := range list {
		out = append(out, r.value(n))
	}
	return out
}

func (r *second) number(n api.Node) int { return r.value(n).cells[0].n }

func number(n int) worth { return worth{only(api.KInt), []cell{{n: n}}} }

// bytes: a new string.
func (r *second) bytes(s string) worth {
	r.made(len(s))
	return worth{only(api.KStr), []cell{{bytes: s}}}
}

func truth(yes bool) worth {
	if yes {
		return worth{only(api.KBool), []cell{{n: 1}}}
	}
	return worth{only(api.KBool), []cell{{}}}
}

func (r *second) value(n api.Node) worth {
	if n.Kind == api.ECall {
		return r.call(n)[0]
	}
	r.count.Work++
	switch n.Kind {
	case api.EInt:
		return number(n.Num)
	case api.EStr:
		return r.bytes(n.Text)
	case api.EBool:
		return truth(n.Num == 1)
	case api.ENil:
		return worth{only(api.KNil), []cell{{}}}
	case api.EName:
		if s, ok := r.scope[n.Text]; ok {
			return r.read(s)
		}
		f, _ := r.function(n.Text)
		r.made(1)
		return worth{typed(f.Kids[0]), []cell{{code: &code{node: f}}}}
	case api.ELit:
		return r.literal(n)
	case api.EList:
		return r.list(n)
	case api.EFunc:
		r.made(1 + r.brought(n))
		return worth{typed(n.Kids[0]), []cell{{code: &code{n, maps.Clone(r.scope)}}}}
	case api.ESel:
		return r.member(r.value(n.Kids[0]), n.Text)
	case api.EIndex:
		of, i := r.value(n.Kids[0]), r.number(n.Kids[1])
		if of.t.Kind == api.KStr {
			r.trapIf(i < 0 || i >= len(of.cells[0].bytes), api.TrapRange)
			return number(int(of.cells[0].bytes[i]))
		}
		return r.read(r.item(of, i))
	case api.ECut:
		return r.cut(n)
	case api.EUnary:
		return r.unary(n)
	}
	return r.binary(n)
}

func (r *second) literal(n api.Node) worth {
	t := api.Type{Kind: api.KName, Name: n.Text}
	fields, _ := r.layout(t)
	cells := make([]cell, r.size(t))
	r.made(len(fields))
	for i, v := range r.each(n.Kids) {
		cells[i] = r.fit(v, fields[i].Type)[0]
	}
	return worth{t, cells}
}

func (r *second) list(n api.Node) worth {
	t := typed(n.Kids[0])
	list := r.each(n.Kids[1:])
	r.trapIf(len(list) > api.MaxLen, api.TrapLarge)
	at := r.reserve(len(list) * r.size(t))
	r.made(1 + len(list)*r.boxes(t))
	for i, v := range list {
		r.give(seat{t, at + i*r.size(t)}, v)
	}
	return worth{only(api.KSlice, t), []cell{{n: at, length: len(list), room: len(list)}}}
}

// offset: which field of a struct a name is.
func (r *second) offset(t api.Type, name string) (int, api.Type) {
	if t.Kind == api.KPtr {
		t = t.Kids[0]
	}
	fields, _ := r.layout(t)
	i := slices.IndexFunc(fields, func(f api.Field) bool { return f.Name == name })
	return i, fields[i].Type
}

// member: of a struct's value, or of what a pointer names.
func (r *second) member(of worth, name string) worth {
	i, t := r.offset(of.t, name)
	if of.t.Kind == api.KName {
		return worth{t, of.cells[i : i+1]}
	}
	r.trapIf(of.cells[0].n == 0, api.TrapNil)
	return r.read(seat{t, of.cells[0].n + i})
}

func (r *second) item(of worth, i int) seat {
	s, t := of.cells[0], of.t.Kids[0]
	r.trapIf(i < 0 || i >= s.length, api.TrapRange)
	return seat{t, s.n + i*r.size(t)}
}

func (r *second) cut(n api.Node) worth {
	of := r.value(n.Kids[0])
	c := of.cells[0]
	length := len(c.bytes) + c.length // one of them is 0
	from, to := 0, length
	switch n.Num {
	case 1:
		from = r.number(n.Kids[1])
	case 2:
		to = r.number(n.Kids[1])
	case 3:
		from, to = r.number(n.Kids[1]), r.number(n.Kids[2])
	}
	r.trapIf(from < 0 || from > to || to > length, api.TrapRange)
	if of.t.Kind == api.KStr {
		return r.bytes(c.bytes[from:to])
	}
	if c.n == 0 {
		return of
	}
	r.made(1)
	return worth{of.t, []cell{{n: c.n + from*r.size(of.t.Kids[0]), length: to - from, room: c.room - from}}}
}

func hasSeat(n api.Node) bool {
	return n.Kind == api.EName || n.Kind == api.ESel || n.Kind == api.EIndex || n.Kind == api.EUnary && n.Text == "*"
}

func (r *second) place(n api.Node) seat {
	r.count.Work++
	return r.spot(n)
}

func (r *second) spot(n api.Node) seat {
	switch n.Kind {
	case api.EName:
		return r.scope[n.Text]
	case api.EIndex:
		of := r.value(n.Kids[0])
		return r.item(of, r.number(n.Kids[1]))
	case api.EUnary:
		p := r.value(n.Kids[0])
		r.trapIf(p.cells[0].n == 0, api.TrapNil)
		return seat{p.t.Kids[0], p.cells[0].n}
	}
	of := r.seated(n.Kids[0])
	if of.t.Kind == api.KPtr {
		of = seat{of.t.Kids[0], r.memory[of.at].n}
		r.trapIf(of.at == 0, api.TrapNil)
	}
	i, t := r.offset(of.t, n.Text)
	return seat{t, of.at + i}
}

// seated: where an expression's value is; a new box, if it has none.
func (r *second) seated(n api.Node) seat {
	if hasSeat(n) {
		return r.place(n)
	}
	v := r.value(n)
	s := seat{v.t, r.reserve(r.size(v.t))}
	r.give(s, v)
	return s
}

func (r *second) unary(n api.Node) worth {
	switch n.Text {
	case "-":
		return number(-r.number(n.Kids[0]))
	case "!":
		return truth(r.number(n.Kids[0]) == 0)
	case "*":
		return r.read(r.spot(n))
	}
	s := r.seated(n.Kids[0])
	return worth{only(api.KPtr, s.t), []cell{{n: s.at}}}
}

func isEmpty(c cell) bool { return c == cell{} }

func (r *second) binary(n api.Node) worth {
	x := r.value(n.Kids[0])
	if n.Text == "&&" && x.cells[0].n == 0 || n.Text == "||" && x.cells[0].n == 1 {
		return x
	}
	y := r.value(n.Kids[1])
	a, b := x.cells[0], y.cells[0]
	switch n.Text {
	case "&&", "||":
		return y
	case "==", "!=":
		same := a == b
		r.count.Work += compared(a.bytes, b.bytes)
		if x.t.Kind == api.KNil || y.t.Kind == api.KNil {
			same = isEmpty(a) && isEmpty(b)
		}
		return truth(same == (n.Text == "=="))
	}
	if x.t.Kind == api.KStr {
		return r.ofBytes(n.Text, a.bytes, b.bytes)
	}
	switch n.Text {
	case "+":
		return number(a.n + b.n)
	case "-":
		return number(a.n - b.n)
	case "*":
		return number(a.n * b.n)
	case "/", "%":
		r.trapIf(b.n == 0, api.TrapZero)
		if n.Text == "/" {
			return number(a.n / b.n)
		}
		return number(a.n - a.n/b.n*b.n)
	case "<":
		return truth(a.n < b.n)
	case "<=":
		return truth(a.n <= b.n)
	case ">":
		return truth(a.n > b.n)
	}
	return truth(a.n >= b.n)
}

func (r *second) ofBytes(operator, a, b string) worth {
	if operator != "+" {
		r.count.Work += compared(a, b)
	}
	switch operator {
	case "<":
		return truth(a < b)
	case "<=":
		return truth(a <= b)
	case ">":
		return truth(a > b)
	case ">=":
		return truth(a >= b)
	}
	r.trapIf(len(a)+len(b) > api.MaxLen, api.TrapLarge)
	return r.bytes(a + b)
}
