package emit

import "halyard/api"

// variable of a unit. One that a literal brings along, or that a pointer may name, lies in a box; a struct is an object anyway.
type variable struct {
	t     *typ
	unit  *unit
	moved bool // it may be come to from elsewhere
}

func (v *variable) isBoxed() bool { return v.moved && !v.t.isStruct() }

type scope struct {
	outer     *scope
	variables map[string]*variable
}

// reader reads a unit: what it finds is told by functions that put the code, once all is read.
type reader struct {
	*world
	unit  *unit
	scope *scope
}

func (r *reader) enter() { r.scope = &scope{r.scope, map[string]*variable{}} }

func (r *reader) leave() { r.scope = r.scope.outer }

func (r *reader) declare(name string, t *typ) *variable {
	v := &variable{t: t, unit: r.unit}
	r.scope.variables[name] = v
	return v
}

// variable that a name means here; nil, if it means none. All units between it and here bring it along.
func (r *reader) variable(name string) *variable {
	v := r.scope.find(name)
	if v == nil {
		return nil
	}
	for u := r.unit; u != v.unit; u = u.outer {
		u.capture(v)
		v.moved = true
	}
	return v
}

func (s *scope) find(name string) *variable {
	for ; s != nil; s = s.outer {
		if v := s.variables[name]; v != nil {
			return v
		}
	}
	return nil
}

func (r *reader) parameter(n api.Node) *variable {
	return r.declare(n.Text, r.written(n.Kids[0]))
}

// function: of a unit, in the scope where its parameters are to stand.
func (r *reader) function(signature, block api.Node) {
	for _, n := range signature.Kids[:signature.Num] {
		r.unit.params = append(r.unit.params, r.parameter(n))
	}
	r.unit.body = r.block(block)
}
