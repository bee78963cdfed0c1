package vm

import "halyard/api"

// The stack's addresses lie behind those of the heap, so that a pointer tells by itself which of the two it points into.
const firstBase = api.MaxWords + 1

// boxLayout: of the type of which an Any is an object: the number of a type, and the pointer.
func boxLayout() api.Layout { return api.Layout{Fields: []int{api.Word, api.Any}} }

// memory is where words lie: the heap or the stack.
type memory interface {
	Get(at int) (int, api.Errno)
	Set(at, v int) api.Errno
}

func (m *VM) memory(at int) memory {
	if at >= firstBase {
		return m.stack
	}
	return m.heap
}

// object: a new one, of n elements of a type; without room for it the run ends.
func (m *VM) object(t, n int) int {
	if item(m.config.Collects, m.report.Allocs) {
		m.collect()
	}
	obj, e := m.heap.Make(t, n)
	if e == api.ErrFull {
		m.collect()
		obj, e = m.heap.Make(t, n)
	}
	if e != api.OK {
		stop(api.NoMemory)
	}
	m.report.Allocs++
	return obj
}

// item: is the k-th of them true? Behind the end none is.
func item(list []bool, k int) bool { return k < len(list) && list[k] }

// collect: all objects go that no frame comes to. Pointers into the stack are no roots: what is there is looked at anyway.
func (m *VM) collect() {
	var roots []int
	for i, f := range m.frames {
		for k, isPointer := range f.ptrs {
			if !isPointer {
				continue
			}
			at, _ := m.stack.Addr(i, k)
			if p, _ := m.stack.Get(at); p < firstBase {
				roots = append(roots, p)
			}
		}
	}
	m.heap.Collect(roots)
}

// move: the stack to addresses that it has never had, so that no old one names anything any more.
func (m *VM) move() {
	m.base += api.MaxWords
	m.stack.Move(m.base)
	m.moved++
}

// content of an Any.
type content struct{ t, p int }

// open: what is in an Any; its type is -1, if it is nil.
func (m *VM) open(box int) content {
	if box == 0 {
		return content{t: -1}
	}
	t, _ := m.heap.Get(box)
	p, _ := m.heap.Get(box + 1)
	return content{t, p}
}
