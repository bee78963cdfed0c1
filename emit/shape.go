package emit

import "halyard/api"

// shapes are the machine's types. Those of structs come first, by their numbers.
type shapes struct {
	layouts []api.Layout
	boxes   map[int]int // the type whose only field is of a kind
	heads   map[int]int // the type of slices' heads, by the type of the elements
}

// A slice is a pointer to a head, which is never changed once it is made.
const (
	headArray = iota
	headFrom
	headLength
)

func newShapes(classes []*class) *shapes {
	s := &shapes{boxes: map[int]int{}, heads: map[int]int{}}
	for _, c := range classes {
		if !c.isInterface {
			s.add(nil)
		}
	}
	for _, c := range classes {
		if !c.isInterface {
			s.layouts[c.number].Fields = s.fields(c)
		}
	}
	return s
}

func (s *shapes) add(fields []int) int {
	s.layouts = append(s.layouts, api.Layout{Fields: fields})
	return len(s.layouts) - 1
}

// fields of a struct: a word at least, so that each one has an address of its own.
func (s *shapes) fields(c *class) []int {
	if len(c.fields) == 0 {
		return []int{api.Word}
	}
	var out []int
	for _, f := range c.fields {
		out = append(out, s.kind(f.t))
	}
	return out
}

// kind of a value on the machine. A struct is told by a pointer to it.
func (s *shapes) kind(t *typ) int {
	if t.shape == unshaped {
		t.shape = s.newKind(t)
	}
	return t.shape
}

func (s *shapes) newKind(t *typ) int {
	switch t.kind {
	case api.KInt, api.KBool:
		return api.Word
	case api.KStr:
		return s.text()
	case api.KPtr:
		return pointerTo(s.element(t.kids[0]))
	case api.KSlice:
		return pointerTo(s.head(s.element(t.kids[0])))
	}
	if t.isStruct() {
		return pointerTo(t.class.number)
	}
	return api.Any
}

func pointerTo(t int) int { return api.Ptr + 2*t }

func arrayOf(t int) int { return api.Arr + 2*t }

// text: the kind of strings, which are arrays of their bytes. One without bytes is nil.
func (s *shapes) text() int { return arrayOf(s.box(api.Word)) }

// box: the type of what holds one value.
func (s *shapes) box(kind int) int {
	t, ok := s.boxes[kind]
	if !ok {
		t = s.add([]int{kind})
		s.boxes[kind] = t
	}
	return t
}

// element: the type of what holds a value of a type: what pointers point to, and arrays are of.
func (s *shapes) element(t *typ) int {
	if t.isStruct() {
		return t.class.number
	}
	return s.box(s.kind(t))
}

func (s *shapes) head(element int) int {
	t, ok := s.heads[element]
	if !ok {
		t = s.add([]int{arrayOf(element), api.Word, api.Word})
		s.heads[element] = t
	}
	return t
}

func (s *shapes) kinds(list []*typ) []int {
	var out []int
	for _, t := range list {
		out = append(out, s.kind(t))
	}
	return out
}
