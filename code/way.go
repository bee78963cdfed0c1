package code

import "halyard/api"

// header stands ahead of every program's bytes.
const header = "HY1"

// coder is what goes the way through a program: one writes what it comes to, the other fills it with what it reads.
type coder interface {
	fixed(text string)   // bytes that are the same in every program
	number(n *int)       // a number
	text(s *string)      // a string
	count(items int) int // how many items a list has, which has so many so far
	going() bool         // whether it goes on: not behind a fault, nor behind too many bytes
}

// way leads through a program's parts, in the order of their bytes. It hands on pointers, of which only reading changes what they name: a program that is written is somebody else's.
type way struct{ coder }

func (w way) program(p *api.Prog) {
	w.fixed(header)
	list(w, &p.Types, w.layout)
	list(w, &p.Funcs, w.function)
	list(w, &p.Tables, w.numbers)
	list(w, &p.Strs, w.text)
}

func (w way) layout(l *api.Layout) { w.numbers(&l.Fields) }

func (w way) function(f *api.Func) {
	w.number(&f.Params)
	w.numbers(&f.Locals)
	w.numbers(&f.Results)
	w.numbers(&f.Areas)
	list(w, &f.Code, w.instruction)
}

func (w way) instruction(i *api.Instr) {
	w.number(&i.Op)
	w.number(&i.A)
	w.number(&i.B)
}

func (w way) numbers(items *[]int) { list(w, items, w.number) }

// list leads through a list's items. One that is written has them all; one that is read is empty at first and grows with each item, not at once by what its count says: that may be far more than follows, and every item has a byte at least, so that the bytes end it.
func list[T any](w way, items *[]T, item func(*T)) {
	n := w.count(len(*items))
	for i := 0; i < n && w.going(); i++ {
		if i == len(*items) {
			var empty T
			*items = append(*items, empty)
		}
		item(&(*items)[i])
	}
}
