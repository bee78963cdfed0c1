package types

import "halyard/api"

// takes: may a place of a known type be given a value of another?
func (d declarations) takes(to, from api.Type) bool {
	if from.Kind == api.KNil {
		return d.takesNil(to)
	}
	return same(from, to) || d.holds(to, from)
}

// takesNil: may it be nil?
func (d declarations) takesNil(t api.Type) bool {
	switch t.Kind {
	case api.KPtr, api.KSlice, api.KFunc:
		return true
	}
	return d.isInterface(t)
}

// holds: is it an interface all of whose methods the struct has that is pointed to?
func (d declarations) holds(to, from api.Type) bool {
	if from.Kind != api.KPtr || !d.isInterface(to) {
		return false
	}
	s, ok := d.structOf(from)
	if !ok {
		return false
	}
	has := func(m api.Field) bool {
		t, ok := methodOf(s, m.Name)
		return ok && same(t, m.Type)
	}
	i, _ := d.named(to)
	return every(i.Methods, has)
}

func (d declarations) comparable(a, b api.Type) bool {
	switch {
	case a.Kind == api.KNil:
		return d.known(b) && d.takesNil(b)
	case b.Kind == api.KNil:
		return d.known(a) && d.takesNil(a)
	}
	return d.known(a) && same(a, b) && d.hasEqual(a)
}

// hasEqual: may two values of the type be compared?
func (d declarations) hasEqual(t api.Type) bool {
	switch t.Kind {
	case api.KInt, api.KBool, api.KStr, api.KPtr:
		return true
	}
	return d.isInterface(t)
}
