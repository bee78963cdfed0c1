package emit

import "halyard/api"

// module is the machine's program in the making.
type module struct {
	*world
	*shapes
	funcs   []api.Func
	waiting []func() // they put the code of functions that have a number already
	helpers map[string]int
	items   []*dispatch
	texts   []string
	textOf  map[string]int // a text's number
}

func newModule(w *world) *module {
	return &module{world: w, shapes: newShapes(w.classes), helpers: map[string]int{}, textOf: map[string]int{}}
}

// later: a new function's number. Its code is put when all that is begun is done.
func (m *module) later(put func(number int)) int {
	number := len(m.funcs)
	m.funcs = append(m.funcs, api.Func{})
	m.waiting = append(m.waiting, func() { put(number) })
	return number
}

func (m *module) putAll() {
	for len(m.waiting) > 0 {
		next := m.waiting[0]
		m.waiting = m.waiting[1:]
		next()
	}
}

// helper: the number of a function that many places call, put when the first one asks for it.
func (m *module) helper(name string, params, results []int, put func(b *body)) int {
	number, ok := m.helpers[name]
	if !ok {
		number = m.later(func(number int) {
			b := newBody(m, nil, params)
			put(b)
			b.write(api.OpRet)
			m.funcs[number] = b.done(results)
		})
		m.helpers[name] = number
	}
	return number
}

// textNumber: a text's place in the program's list.
func (m *module) textNumber(s string) int {
	number, ok := m.textOf[s]
	if !ok {
		number = len(m.texts)
		m.texts = append(m.texts, s)
		m.textOf[s] = number
	}
	return number
}

// way in which a unit is called.
type way int

const (
	direct way = iota // with the receiver, if it is a method, and the parameters
	asItem            // of a table: with the parameters, and what has the tag by which the item was found
)

// function of the machine for a unit and a way.
func (m *module) function(u *unit, by way) int {
	if u.numbers[by] == unmade {
		u.numbers[by] = m.later(func(number int) { m.funcs[number] = m.putUnit(u, by) })
	}
	return u.numbers[by]
}

// tag of a unit's values: the type of what they bring along. Each unit has its own, even if it brings nothing.
func (m *module) tag(u *unit) int {
	if u.tag == unmade {
		fields := []int{api.Word}
		if len(u.captured) > 0 {
			fields = nil
		}
		for _, v := range u.captured {
			fields = append(fields, m.storage(v))
		}
		u.tag = m.add(fields)
	}
	return u.tag
}

// storage: the kind of the local that has a variable.
func (m *module) storage(v *variable) int {
	if v.isBoxed() {
		return pointerTo(m.box(m.kind(v.t)))
	}
	return m.kind(v.t)
}

// dispatch is a table in the making: which function a tag stands for.
type dispatch struct {
	number  int
	t       *typ
	entries []entry
}

type entry struct{ tag, function int }

func (m *module) newDispatch(t *typ) *dispatch {
	d := &dispatch{number: len(m.items), t: t}
	m.items = append(m.items, d)
	return d
}

// item: a function that becomes a value is one of its type's.
func (m *module) item(u *unit) {
	if u.numbers[asItem] == unmade {
		d := m.values(u.t)
		d.entries = append(d.entries, entry{m.tag(u), m.function(u, asItem)})
	}
}

// values: what a function type's values may call.
func (m *module) values(t *typ) *dispatch {
	if t.calls == nil {
		t.calls = m.newDispatch(t)
	}
	return t.calls
}

// methods: of an interface's method; all structs that satisfy the interface have it.
func (m *module) methods(c *class, asked int) *dispatch {
	if c.calls[asked] == nil {
		d := m.newDispatch(c.asked[asked].t)
		c.calls[asked] = d
		for _, of := range m.classes {
			if !of.isInterface && of.satisfies(c) {
				d.entries = append(d.entries, entry{of.number, m.function(of.methods[c.asked[asked].name], asItem)})
			}
		}
	}
	return c.calls[asked]
}

// table: tags that stand for nothing never come; where there is no function at all, one that is never called stands there.
func (m *module) table(d *dispatch) []int {
	if len(d.entries) == 0 {
		d.entries = []entry{{0, m.deadFunction(d.t)}}
	}
	last := 0
	for _, e := range d.entries {
		last = max(last, e.tag)
	}
	list := make([]int, last+1)
	for i := range list {
		list[i] = d.entries[0].function
	}
	for _, e := range d.entries {
		list[e.tag] = e.function
	}
	return list
}

func (m *module) deadFunction(t *typ) int {
	b := newBody(m, nil, append(m.kinds(t.kids[:t.params]), api.Any))
	b.trap(api.TrapNil)
	m.funcs = append(m.funcs, b.done(m.kinds(t.results())))
	return len(m.funcs) - 1
}

// whole: the program; whether it is within the limits of types and tables, without which its tables would be beyond all measure.
func (m *module) whole() (api.Prog, bool) {
	if len(m.layouts) > api.MaxTypes || len(m.items) > api.MaxTypes {
		return api.Prog{}, false
	}
	p := api.Prog{Strs: m.texts}
	for _, d := range m.items {
		p.Tables = append(p.Tables, m.table(d))
	}
	p.Types, p.Funcs = m.layouts, m.funcs
	return p, true
}
