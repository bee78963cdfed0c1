package emit

import (
	"halyard/api"
	"halyard/check"
)

// world: what a program declares.
type world struct {
	*typing
	classes   []*class
	functions map[string]*unit
}

// unit: a function, a method or a literal.
type unit struct {
	t        *typ
	receiver *variable // of a method
	params   []*variable
	body     put
	outer    *unit       // of a literal: the one in which it stands
	captured []*variable // of a literal: what it brings along
	places   map[*variable]int

	tag     int    // the machine's type by which its values are known, or unmade
	numbers [2]int // of the machine's functions for the two ways to call it, or unmade
}

const unmade = -1

func newUnit(t *typ, outer *unit) *unit {
	return &unit{t: t, outer: outer, places: map[*variable]int{}, tag: unmade, numbers: [2]int{unmade, unmade}}
}

// capture: a variable of a unit further out.
func (u *unit) capture(v *variable) {
	if _, ok := u.places[v]; !ok {
		u.places[v] = len(u.captured)
		u.captured = append(u.captured, v)
	}
}

// newWorld of a program that is well typed.
func newWorld(prog api.Node) *world {
	table, _ := check.Table(prog)
	ts, classes := newTyping(table)
	w := &world{typing: ts, classes: classes, functions: map[string]*unit{}}
	var bodies []func()
	for _, n := range prog.Kids {
		if u := w.declare(n); u != nil {
			bodies = append(bodies, func() { w.read(u, n) })
		}
	}
	for _, read := range bodies {
		read()
	}
	return w
}

// declare: nil of a type's declaration.
func (w *world) declare(n api.Node) *unit {
	switch n.Kind {
	case api.NFunc:
		u := newUnit(w.written(n.Kids[0]), nil)
		w.functions[n.Text] = u
		return u
	case api.NMethod:
		u := newUnit(w.written(n.Kids[1]), nil)
		w.written(n.Kids[0].Kids[0]).owner().methods[n.Text] = u
		return u
	}
	return nil
}

// read: what is in a function or method.
func (w *world) read(u *unit, n api.Node) {
	r := &reader{world: w, unit: u}
	r.enter()
	if n.Kind == api.NMethod {
		u.receiver = r.parameter(n.Kids[0])
	}
	last := len(n.Kids) - 1
	r.function(n.Kids[last-1], n.Kids[last])
}
