package sample

import (
	"slices"

	"halyard/api"
)

// Prog: a program of the machine that is sound in what it does, with something of everything. Of pick(n) come numbers from 0 to n - 1.
func Prog(pick func(n int) int) api.Prog {
	p := api.Prog{Strs: []string{"a", ""}[:pick(3)]}
	many := 1 + pick(5)
	for range many {
		p.Types = append(p.Types, api.Layout{Fields: append(progKinds(pick, many, 2, true), progKind(pick, many, true))})
	}
	p.Types[pick(many)].Fields = []int{api.Word}
	for f := range 1 + pick(4) {
		fn := api.Func{Locals: progKinds(pick, many, 5, false)}
		if f > 0 {
			fn.Params, fn.Results = pick(len(fn.Locals)+1), progKinds(pick, many, 3, true)
		}
		for range pick(3) {
			fn.Areas = append(fn.Areas, pick(many))
		}
		p.Funcs = append(p.Funcs, fn)
		if pick(3) == 0 {
			fn.Areas = nil
			p.Funcs = append(p.Funcs, fn)
			p.Tables = append(p.Tables, []int{len(p.Funcs) - 1, len(p.Funcs) - 2})
		}
		p.Tables = append(p.Tables, []int{len(p.Funcs) - 1})[:pick(len(p.Tables)+2)]
	}
	for f := range p.Funcs {
		c := &coder{pick: pick, p: p, fn: p.Funcs[f]}
		p.Funcs[f].Code = c.function()
	}
	return p
}

// progKind: any one; a free one has no Local.
func progKind(pick func(n int) int, types int, free bool) int {
	kind := api.Ptr + 2*pick(types)
	switch k := pick(10); {
	case k < 3:
		return api.Word
	case k < 4:
		return api.Any
	case k < 6:
		return kind
	case k < 8 || free:
		return kind - api.Ptr + api.Arr
	case k < 9:
		return api.Local + kind
	}
	return api.Local + kind - api.Ptr + api.Arr
}

func progKinds(pick func(n int) int, types, most int, free bool) []int {
	list := make([]int, pick(most+1))
	for i := range list {
		list[i] = progKind(pick, types, free)
	}
	return list
}

// coder makes a function's code; it knows what is on the stack.
type coder struct {
	pick  func(n int) int
	p     api.Prog
	fn    api.Func
	list  []api.Instr
	stack []int
	later []detour
}

// detour is a piece that stands behind all others: where it is jumped to from, and with which stack.
type detour struct {
	from  int
	stack []int
}

func (c *coder) emit(op, a, takes int, puts ...int) {
	c.list = append(c.list, api.Instr{Op: op, A: a})
	c.stack = append(slices.Clone(c.stack[:len(c.stack)-takes]), puts...)
}

func (c *coder) function() []api.Instr {
	c.block(3)
	c.leave()
	for len(c.later) > 0 {
		d := c.later[0]
		c.later = c.later[1:]
		c.list[d.from].A = len(c.list)
		c.stack = slices.Clone(d.stack)
		c.block(1)
		c.restore(d.stack)
		c.emit(api.OpJump, d.from+1, 0)
	}
	return c.list
}

// leave ends the function here.
func (c *coder) leave() {
	switch c.pick(4) {
	case 0:
		c.emit(api.OpHalt, 0, 0)
	case 1:
		c.put(api.Word)
		c.emit(api.OpTrap, c.pick(9), 1)
	default:
		c.restore(nil)
		for _, k := range c.fn.Results {
			c.put(k)
		}
		c.emit(api.OpRet, 0, len(c.stack))
	}
}

// restore makes the stack what it was.
func (c *coder) restore(stack []int) {
	n := 0
	for n < min(len(stack), len(c.stack)) && stack[n] == c.stack[n] {
		n++
	}
	for len(c.stack) > n {
		c.emit(api.OpPop, 0, 1)
	}
	for _, k := range stack[n:] {
		c.put(k)
	}
}

func (c *coder) block(deep int) {
	for range c.pick(6) {
		if deep > 0 && c.pick(4) == 0 {
			c.branch(deep)
		} else {
			c.simple()
		}
	}
}

// branch: a piece that is gone round, gone through again, one of two, or one that stands elsewhere.
func (c *coder) branch(deep int) {
	start, old := len(c.list), slices.Clone(c.stack)
	switch c.pick(4) {
	case 0, 1:
		c.put(api.Word)
		at := len(c.list)
		c.emit(api.OpIf, 0, 1)
		c.arm(deep, old)
		end := len(c.list)
		c.list[at].A = end
		if c.pick(2) == 0 {
			c.emit(api.OpJump, 0, 0)
			c.junk()
			c.list[at].A = len(c.list)
			c.stack = slices.Clone(old)
			c.arm(deep, old)
			c.list[end].A = len(c.list)
		}
	case 2:
		c.block(deep - 1)
		c.restore(old)
		c.put(api.Word)
		c.emit(api.OpIf, start, 1)
	case 3:
		c.later = append(c.later, detour{start, old})
		c.emit(api.OpJump, 0, 0)
	}
	c.stack = old
}

// arm: a piece that leaves the stack as it was, or does not go on.
func (c *coder) arm(deep int, stack []int) {
	c.block(deep - 1)
	if c.pick(4) == 0 {
		c.leave()
	} else {
		c.restore(stack)
	}
}

// junk is never come to.
func (c *coder) junk() {
	for range c.pick(3) {
		c.list = append(c.list, api.Instr{Op: 1 + c.pick(api.OpStr), A: c.pick(9) - 2, B: c.pick(9) - 2})
	}
}
