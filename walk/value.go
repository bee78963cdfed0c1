package walk

import (
	"slices"

	"halyard/api"
)

// value: an int, a bool, a string, a pointer, a slice, a dynamic, a function or a *record, each for one kind of types; or nothing.
type value any

// nothing is nil as it is written, which has no type till it is given to something.
type nothing struct{}

type box struct{ value value }

// pointer: nil, if to is. A nil one has methods too: of says whose (none, if what it points to is no struct).
type pointer struct {
	to *box
	of *structure
}

// dynamic: of an interface; nil, if of is.
type dynamic struct{ pointer }

// slice: nil, if array is. Its room is what the array has from there on.
type slice struct {
	element      *api.Node // its type
	array        []box
	from, length int
}

// function: nil, if node is: an NFunc, an NMethod or an EFunc, with the variables around it.
type function struct {
	node  *api.Node
	scope *variable
}

// structure is a struct's declaration.
type structure struct {
	fields  []api.Node
	methods map[string]*api.Node
	zero    *record // it is copied, and given to nothing itself
}

// record: a struct. A box has one record for good, so that what points to the struct or to its fields sees what is given to it.
type record struct {
	of     *structure
	fields []box
}

// copied: fields are no structs themselves.
func (r *record) copied() *record { return &record{of: r.of, fields: slices.Clone(r.fields)} }

// copyOf: a value that no other box has.
func copyOf(v value) value {
	if r, ok := v.(*record); ok {
		return r.copied()
	}
	return v
}

func (r *record) field(name string) *box {
	i := slices.IndexFunc(r.of.fields, func(f api.Node) bool { return f.Text == name })
	return &r.fields[i]
}

// zero: of a type's node.
func (w *walker) zero(t *api.Node) value {
	switch t.Kind {
	case api.TyPtr:
		return pointer{of: w.structs[t.Kids[0].Text]}
	case api.TySlice:
		return slice{element: &t.Kids[0]}
	case api.TyFunc:
		return function{}
	}
	switch t.Text {
	case "int":
		return 0
	case "bool":
		return false
	case "string":
		return ""
	}
	if of := w.structs[t.Text]; of != nil {
		return of.zero.copied()
	}
	return dynamic{}
}

// zeroRecord: fields are no structs, so that it hangs on no other one.
func (w *walker) zeroRecord(of *structure) *record {
	r := &record{of: of, fields: make([]box, len(of.fields))}
	for i := range of.fields {
		r.fields[i].value = w.zero(&of.fields[i].Kids[0])
	}
	return r
}

// fitted: a value as one of a type's node. Of the named types, interfaces alone are given pointers.
func (w *walker) fitted(t *api.Node, v value) value {
	switch v := v.(type) {
	case nothing:
		return w.zero(t)
	case pointer:
		if t.Kind == api.TyName {
			return dynamic{v}
		}
	}
	return v
}

// like: a value as one of the type that old has.
func like(old, v value) value {
	switch v := v.(type) {
	case nothing:
		return empty(old)
	case pointer:
		if _, ok := old.(dynamic); ok {
			return dynamic{v}
		}
	}
	return v
}

// empty: nil, of the type that old has.
func empty(old value) value {
	switch old := old.(type) {
	case pointer:
		return pointer{of: old.of}
	case slice:
		return slice{element: old.element}
	case dynamic:
		return dynamic{}
	}
	return function{}
}

func isNil(v value) bool {
	switch v := v.(type) {
	case pointer:
		return v.to == nil
	case slice:
		return v.array == nil
	case dynamic:
		return v.of == nil
	case function:
		return v.node == nil
	}
	return false
}

// give: a struct's boxes stay, and get the fields.
func (b *box) give(v value) {
	from, ok := v.(*record)
	if to, isStruct := b.value.(*record); ok && isStruct {
		copy(to.fields, from.fields)
		return
	}
	b.value = like(b.value, v)
}
