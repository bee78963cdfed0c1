package walk

// variable stands within those that were declared ahead of it. None is ever changed or taken out, so that a literal keeps those that its names mean, whatever is declared behind it.
type variable struct {
	name  string
	box   box
	outer *variable
}

// find: the innermost variable of a name, or nil.
func (v *variable) find(name string) *box {
	for ; v != nil; v = v.outer {
		if v.name == name {
			return &v.box
		}
	}
	return nil
}

func (w *walker) declare(name string, v value) {
	w.scope = &variable{name: name, box: box{v}, outer: w.scope}
}
