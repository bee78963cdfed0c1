package walk

import (
	"strconv"

	"halyard/api"
)

func builtins() map[string]func(*walker, []api.Node) []value {
	return map[string]func(*walker, []api.Node) []value{
		"print":  (*walker).show,
		"panic":  (*walker).abort,
		"len":    (*walker).measure,
		"append": (*walker).extend,
	}
}

// builtin: the call that every program has, if that is what an expression means. (No function has such a name, but a variable may.)
func (w *walker) builtin(n *api.Node) (func(*walker, []api.Node) []value, bool) {
	if n.Kind != api.EName || w.scope.find(n.Text) != nil {
		return nil, false
	}
	do, ok := w.builtins[n.Text]
	return do, ok
}

func (w *walker) show(arguments []api.Node) []value {
	switch v := w.expression(&arguments[0]).(type) {
	case int:
		w.write(strconv.Itoa(v))
	case bool:
		w.write(strconv.FormatBool(v))
	case string:
		w.write(v)
	}
	w.write("\n")
	return nil
}

func (w *walker) write(s string) {
	left := api.MaxOut - len(w.out)
	w.out = append(w.out, s[:min(len(s), left)]...)
	if len(s) > left {
		panic(stop{end: api.OutFull})
	}
}

func (w *walker) abort(arguments []api.Node) []value {
	panic(stop{end: api.Trapped, trap: api.TrapPanic, value: w.whole(&arguments[0])})
}

func (w *walker) measure(arguments []api.Node) []value {
	return []value{length(w.expression(&arguments[0]))}
}

func (w *walker) extend(arguments []api.Node) []value {
	s, _ := w.expression(&arguments[0]).(slice)
	v := w.taken(&arguments[1])
	if s.length < len(s.array)-s.from {
		s.array[s.from+s.length].give(v)
	} else {
		s = w.grown(s, v)
	}
	s.length++
	return []value{s}
}

// grown: in a new array, with a value behind those that the slice has.
func (w *walker) grown(s slice, v value) slice {
	if s.length == api.MaxLen {
		trap(api.TrapLarge)
	}
	array := make([]box, room(s.length))
	zero := w.zero(s.element)
	for i := range array {
		switch {
		case i < s.length:
			array[i].value = copyOf(s.array[s.from+i].value)
		case i == s.length:
			array[i].value = w.fitted(s.element, v)
		default:
			array[i].value = copyOf(zero)
		}
	}
	return slice{element: s.element, array: array, length: s.length}
}

// room: of an array for one element more.
func room(length int) int {
	if length < 4 {
		return 4
	}
	return min(2*length, api.MaxLen)
}
