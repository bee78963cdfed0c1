package types

import (
	"slices"

	"halyard/api"
	"halyard/scan"
)

// declarations: what a sound table declares, by its name. The types that its methods are asked for are sound.
type declarations map[string]api.Decl

// declare: each error is looked for in the whole table ahead of the next one.
func declare(table []api.Decl) (declarations, api.Errno) {
	switch {
	case len(table) > api.MaxTypes || !every(table, smallDecl):
		return nil, api.ErrLarge
	case !every(table, soundDecl):
		return nil, api.ErrForm
	}
	d := byName(table)
	if len(d) < len(table) || !every(table, d.fits) {
		return nil, api.ErrType
	}
	return d, api.OK
}

func byName(table []api.Decl) declarations {
	d := make(declarations, len(table))
	for _, one := range table {
		d[one.Name] = one
	}
	return d
}

func smallDecl(one api.Decl) bool {
	return len(one.Fields) <= api.MaxFields && len(one.Methods) <= api.MaxFields
}

func soundDecl(one api.Decl) bool {
	return freeName(one.Name) && (!one.Iface || len(one.Fields) == 0) &&
		every(one.Fields, soundMember) && every(one.Methods, soundMethod)
}

func soundMember(f api.Field) bool {
	return scan.Name(f.Name) && f.Type.Kind != api.KNil && sound(f.Type)
}

func soundMethod(f api.Field) bool { return f.Type.Kind == api.KFunc && soundMember(f) }

// fits: may a declaration stand beside the others?
func (d declarations) fits(one api.Decl) bool {
	return distinct(one) && every(one.Fields, d.knownField) && every(one.Methods, d.knownMethod)
}

// distinct: does each member have a name of its own?
func distinct(one api.Decl) bool {
	names := slices.Concat(each(one.Fields, nameOf), each(one.Methods, nameOf))
	slices.Sort(names)
	return len(slices.Compact(names)) == len(one.Fields)+len(one.Methods)
}

func nameOf(f api.Field) string { return f.Name }

func (d declarations) knownField(f api.Field) bool { return d.known(f.Type) && !d.isStruct(f.Type) }

func (d declarations) knownMethod(f api.Field) bool { return d.known(f.Type) }

func (d declarations) known(t api.Type) bool {
	if t.Kind == api.KName {
		_, ok := d[t.Name]
		return ok
	}
	return t.Kind != api.KNil && every(t.Kids, d.known)
}

// named: the declaration of a type that is a name.
func (d declarations) named(t api.Type) (api.Decl, bool) {
	if t.Kind != api.KName {
		return api.Decl{}, false
	}
	one, ok := d[t.Name]
	return one, ok
}

func (d declarations) isStruct(t api.Type) bool {
	one, ok := d.named(t)
	return ok && !one.Iface
}

func (d declarations) isInterface(t api.Type) bool {
	one, ok := d.named(t)
	return ok && one.Iface
}

// structOf: of a struct, or of what a pointer points to, if it is one.
func (d declarations) structOf(t api.Type) (api.Decl, bool) {
	if t.Kind == api.KPtr {
		t = t.Kids[0]
	}
	if !d.isStruct(t) {
		return api.Decl{}, false
	}
	return d.named(t)
}

// method: of an interface, a struct, or a pointer to a struct.
func (d declarations) method(t api.Type, name string) (api.Type, bool) {
	one, ok := d.structOf(t)
	if d.isInterface(t) {
		one, ok = d.named(t)
	}
	if !ok {
		return api.Type{}, false
	}
	return methodOf(one, name)
}

func methodOf(one api.Decl, name string) (api.Type, bool) {
	for _, m := range one.Methods {
		if m.Name == name {
			return m.Type, true
		}
	}
	return api.Type{}, false
}
