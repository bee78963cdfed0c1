package sample

import (
	"slices"

	"halyard/api"
)

// put puts a kind, in one of the ways that there are.
func (c *coder) put(k int) {
	t := (k%api.Local - api.Ptr) / 2
	if at := slices.Index(c.fn.Locals, k); at >= 0 && c.pick(2) == 0 {
		c.emit(api.OpGet, at, 0, k)
		return
	}
	if at := slices.Index(c.fn.Areas, t); at >= 0 && k == api.Local+api.Ptr+2*t {
		c.emit(api.OpArea, at, 0, k)
		return
	}
	switch {
	case k == api.Word:
		c.emit(api.OpInt, c.pick(9), 0, k)
	case k < api.Local && k > api.Any && k%2 == 0 && c.pick(2) == 0:
		c.emit(api.OpNew, t, 0, k)
	case k < api.Local && k > api.Any && k%2 == 1 && c.pick(2) == 0:
		c.put(api.Word)
		c.emit(api.OpMake, t, 1, k)
	default:
		c.emit(api.OpNil, k, 0, k)
	}
}

// puts: what fits these kinds.
func (c *coder) puts(kinds ...int) {
	for _, k := range kinds {
		if k >= api.Local && c.pick(2) == 0 {
			k -= api.Local
		}
		c.put(k)
	}
}

// simple: an instruction that goes on, with what it takes.
func (c *coder) simple() {
	t := c.pick(len(c.p.Types))
	switch c.pick(14) {
	case 0:
		c.put(progKind(c.pick, len(c.p.Types), false))
	case 1, 2:
		c.held()
	case 3:
		c.puts(api.Word, api.Word)
		c.emit(api.OpArith, c.pick(api.Lt+1), 2, api.Word)
	case 4:
		k := max(api.Any, progKind(c.pick, len(c.p.Types), false))
		c.puts(k, k)
		c.emit(api.OpSame, 0, 2, api.Word)
	case 5, 6:
		c.fielded(t)
	case 7:
		c.addr(t)
	case 8:
		c.puts(api.Local+api.Arr+2*t, api.Word)
		c.emit(api.OpElem, 0, 2, c.stack[len(c.stack)-2]-1)
	case 9:
		c.puts(api.Local + api.Arr + 2*t)
		c.emit(api.OpLen, 0, 1, api.Word)
	case 10:
		c.boxed(t)
	case 11, 12:
		c.call()
	case 13:
		c.shown(t)
	}
}

// held: a local is set, or what is on top is put again.
func (c *coder) held() {
	if n := len(c.stack); n > 0 && c.pick(2) == 0 {
		c.emit(api.OpDup, 0, 1, c.stack[n-1], c.stack[n-1])
		return
	}
	if len(c.fn.Locals) > 0 {
		a := c.pick(len(c.fn.Locals))
		c.puts(c.fn.Locals[a])
		c.emit(api.OpSet, a, 1)
	}
}

// fielded: a field is loaded or stored.
func (c *coder) fielded(t int) {
	fields := c.p.Types[t].Fields
	a := c.pick(len(fields))
	c.puts(api.Local + api.Ptr + 2*t)
	if c.pick(2) == 0 {
		c.emit(api.OpLoad, a, 1, fields[a])
		return
	}
	c.puts(fields[a])
	c.emit(api.OpStore, a, 2)
}

// addr: the address of a field, if there is a type of such a field alone.
func (c *coder) addr(t int) {
	fields := c.p.Types[t].Fields
	a := c.pick(len(fields))
	for b, l := range c.p.Types {
		if slices.Equal(l.Fields, fields[a:a+1]) {
			c.puts(api.Local + api.Ptr + 2*t)
			c.emit(api.OpAddr, a, 1, c.stack[len(c.stack)-1]+2*(b-t))
			c.list[len(c.list)-1].B = b
			return
		}
	}
}

// boxed: something is boxed, and perhaps looked at.
func (c *coder) boxed(t int) {
	c.put(api.Ptr + 2*t)
	c.emit(api.OpBox, 0, 1, api.Any)
	switch c.pick(4) {
	case 0, 1:
		c.emit(api.OpTag, 0, 1, api.Word)
	case 2:
		c.emit(api.OpUnbox, t, 1, api.Ptr+2*t)
	}
}

// shown: a text is made, if there is one, and something is written.
func (c *coder) shown(t int) {
	if len(c.p.Strs) > 0 && slices.Equal(c.p.Types[t].Fields, []int{api.Word}) {
		c.emit(api.OpStr, c.pick(len(c.p.Strs)), 0, api.Arr+2*t)
		c.list[len(c.list)-1].B = t
	}
	c.put(api.Word)
	c.emit(api.OpOut+c.pick(2), 0, 1)
}

func (c *coder) call() {
	f := c.pick(len(c.p.Funcs))
	op, a := api.OpCall, f
	if len(c.p.Tables) > 0 && c.pick(2) == 0 {
		op, a = api.OpDyn, c.pick(len(c.p.Tables))
		f = c.p.Tables[a][0]
	}
	fn := c.p.Funcs[f]
	c.puts(fn.Locals[:fn.Params]...)
	takes := fn.Params
	if op == api.OpDyn {
		c.put(api.Word)
		takes++
	}
	c.emit(op, a, takes, fn.Results...)
}
