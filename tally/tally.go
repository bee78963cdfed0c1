// Package tally carries trees out a second way, for tests, and counts what is done: memory is one list of cells, of which boxes are numbers; each value has its type beside it; scopes are maps, which are copied for what stands inside.
package tally

import (
	"maps"
	"slices"

	"halyard/api"
	"halyard/check"
	"halyard/types"
)

// cell: a number, a truth (1 or 0), or an address (0 is nil); bytes; of a slice its address, length and room; of an interface its address and the struct's name; of a function its code.
type cell struct {
	n            int
	bytes        string
	length, room int
	who          string
	code         *code
}

// code: a function's node (NFunc, NMethod, EFunc), and the variables around a literal.
type code struct {
	node   api.Node
	around map[string]seat
}

// seat: where a box is.
type seat struct {
	t  api.Type
	at int
}

// worth: a struct has a cell for each field, anything else has one.
type worth struct {
	t     api.Type
	cells []cell
}

type second struct {
	prog   api.Node
	table  []api.Decl
	fields map[string][]api.Field // of structs
	memory []cell
	scope  map[string]seat
	answer []worth
	deep   int
	fuel   int
	report api.Report
	count  Count
}

type over struct{}

func (r *second) finish(end, trap, value int) {
	r.report.End, r.report.Trap, r.report.Value = end, trap, value
	panic(over{})
}

func (r *second) trapIf(yes bool, trap int) {
	if yes {
		r.finish(api.Trapped, trap, 0)
	}
}

func (r *second) step() {
	if r.report.Steps+1 > r.fuel {
		r.finish(api.NoFuel, 0, 0)
	}
	r.report.Steps++
}

// Run: the report of a program that is well typed, and the count.
func Run(prog api.Node, fuel int) (report api.Report, count Count) {
	table, _ := check.Table(prog)
	r := &second{prog: prog, table: table, fields: map[string][]api.Field{}, memory: make([]cell, 1), fuel: min(fuel, api.MaxFuel)}
	for _, d := range table {
		if !d.Iface {
			r.fields[d.Name] = d.Fields
		}
	}
	defer func() {
		if caught := recover(); caught != nil {
			if _, ok := caught.(over); !ok {
				panic(caught)
			}
		}
		report, count = r.report, r.count
	}()
	main, _ := r.function("main")
	r.enter(code{node: main}, nil)
	r.report.End = api.Exit
	return
}

func (r *second) function(name string) (api.Node, bool) {
	i := slices.IndexFunc(r.prog.Kids, func(n api.Node) bool { return n.Kind == api.NFunc && n.Text == name })
	if i < 0 {
		return api.Node{}, false
	}
	return r.prog.Kids[i], true
}

func (r *second) method(of, name string) api.Node {
	i := slices.IndexFunc(r.prog.Kids, func(n api.Node) bool {
		return n.Kind == api.NMethod && n.Text == name && n.Kids[0].Kids[0].Kids[0].Text == of
	})
	return r.prog.Kids[i]
}

func typed(n api.Node) api.Type {
	t, _ := types.Of(n)
	return t
}

func only(kind int, kids ...api.Type) api.Type { return api.Type{Kind: kind, Kids: kids} }

// layout: the fields of a struct.
func (r *second) layout(t api.Type) ([]api.Field, bool) {
	if t.Kind != api.KName {
		return nil, false
	}
	fields, ok := r.fields[t.Name]
	return fields, ok
}

// boxes that a value of a type is given to.
func (r *second) boxes(t api.Type) int {
	fields, isStruct := r.layout(t)
	if isStruct {
		return len(fields)
	}
	return 1
}

// size: one at least, so that no two boxes have one address.
func (r *second) size(t api.Type) int { return max(1, r.boxes(t)) }

func (r *second) reserve(cells int) int {
	at := len(r.memory)
	r.memory = append(r.memory, make([]cell, max(1, cells))...)
	return at
}

func (r *second) read(s seat) worth {
	return worth{s.t, slices.Clone(r.memory[s.at : s.at+r.size(s.t)])}
}

// fit: a value's cells, as a place of that type has them.
func (r *second) fit(v worth, to api.Type) []cell {
	if v.t.Kind == api.KNil {
		return make([]cell, 1)
	}
	if to.Kind == api.KName && v.t.Kind == api.KPtr {
		r.made(1)
		return []cell{{n: v.cells[0].n, who: v.t.Kids[0].Name}}
	}
	return slices.Clone(v.cells)
}

func (r *second) give(s seat, v worth) { copy(r.memory[s.at:], r.fit(v, s.t)) }

func (r *second) declare(name string, t api.Type, v worth) {
	r.made(r.boxes(t))
	s := seat{t, r.reserve(r.size(t))}
	r.give(s, v)
	r.scope[name] = s
}

// block answers how it ended: "", break, continue or return.
func (r *second) block(n api.Node) string {
	outer := r.scope
	defer func() { r.scope = outer }()
	r.scope = maps.Clone(outer)
	for _, kid := range n.Kids {
		if end := r.statement(kid); end != "" {
			return end
		}
	}
	return ""
}

func (r *second) statement(n api.Node) string {
	if n.Kind == api.SBlock {
		return r.block(n)
	}
	r.step()
	r.count.Work++
	switch n.Kind {
	case api.SVar:
		t := typed(n.Kids[0])
		v := worth{t, make([]cell, r.size(t))}
		if len(n.Kids) > 1 {
			v = r.value(n.Kids[1])
		}
		r.declare(n.Text, t, v)
	case api.SDefine:
		for i, v := range r.values(n.Kids[n.Num:]) {
			r.declare(n.Kids[i].Text, v.t, v)
		}
	case api.SAssign:
		var to []seat
		for _, kid := range n.Kids[:n.Num] {
			to = append(to, r.place(kid))
		}
		for i, v := range r.values(n.Kids[n.Num:]) {
			r.give(to[i], v)
		}
	case api.SExpr:
		r.call(n.Kids[0])
	case api.SIf:
		if r.number(n.Kids[0]) == 1 {
			return r.statement(n.Kids[1])
		} else if len(n.Kids) > 2 {
			return r.statement(n.Kids[2])
		}
	case api.SFor:
		return r.loop(n)
	case api.SReturn:
		r.answer = r.values(n.Kids)
		return "return"
	case api.SBreak:
		return "break"
	case api.SNext:
		return "continue"
	}
	return ""
}

func (r *second) loop(n api.Node) string {
	for {
		r.step()
		if len(n.Kids) == 2 && r.number(n.Kids[0]) == 0 {
			return ""
		}
		if end := r.block(n.Kids[len(n.Kids)-1]); end == "break" {
			return ""
		} else if end == "return" {
			return end
		}
	}
}

// enter calls; what is given may have a receiver first.
func (r *second) enter(c code, given []worth) []worth {
	r.step()
	if r.deep+1 > api.MaxFrames {
		r.finish(api.NoStack, 0, 0)
	}
	r.deep++
	r.count.Calls = max(r.count.Calls, r.deep)
	outer := r.scope
	r.scope = maps.Clone(c.around)
	if r.scope == nil {
		r.scope = map[string]seat{}
	}
	kids := c.node.Kids
	if c.node.Kind == api.NMethod {
		r.declare(kids[0].Text, typed(kids[0].Kids[0]), given[0])
		given = given[1:]
		kids = kids[1:]
	}
	for i, p := range kids[0].Kids[:kids[0].Num] {
		r.declare(p.Text, typed(p.Kids[0]), given[i])
	}
	r.answer = nil
	end := r.block(kids[1])
	var out []worth
	for i, result := range kids[0].Kids[kids[0].Num:] {
		t := typed(result)
		v := worth{t, make([]cell, r.size(t))}
		if end == "return" {
			v.cells = r.fit(r.answer[i], t)
		}
		out = append(out, v)
	}
	r.scope = outer
	r.deep--
	return out
}
