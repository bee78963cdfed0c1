package tally

import (
	"strconv"

	"halyard/api"
	"halyard/types"
)

func (r *second) call(n api.Node) []worth {
	r.count.Work++
	f, arguments := n.Kids[0], n.Kids[1:]
	if f.Kind == api.EName {
		_, isVariable := r.scope[f.Text]
		_, isFunction := r.function(f.Text)
		if !isVariable && !isFunction {
			return r.builtin(f.Text, r.each(arguments))
		}
	}
	c, given := r.called(f)
	given = append(given, r.each(arguments)...)
	r.trapIf(c == nil, api.TrapNil)
	return r.enter(*c, given)
}

func (r *second) called(f api.Node) (*code, []worth) {
	if f.Kind != api.ESel {
		return r.value(f).cells[0].code, nil
	}
	s := r.seated(f.Kids[0])
	if _, ok := types.Method(r.table, s.t, f.Text); !ok {
		return r.member(r.read(s), f.Text).cells[0].code, nil
	}
	at := r.memory[s.at]
	name := s.t.Name
	switch _, isStruct := r.layout(s.t); {
	case s.t.Kind == api.KPtr:
		name = s.t.Kids[0].Name
	case isStruct:
		at = cell{n: s.at}
	default:
		r.trapIf(at.who == "", api.TrapNil)
		name = at.who
	}
	receiver := worth{only(api.KPtr, api.Type{Kind: api.KName, Name: name}), []cell{{n: at.n}}}
	return &code{node: r.method(name, f.Text)}, []worth{receiver}
}

func (r *second) builtin(name string, given []worth) []worth {
	first := given[0].cells[0]
	switch name {
	case "print":
		text := first.bytes
		if given[0].t.Kind == api.KInt {
			text = strconv.Itoa(first.n)
		} else if given[0].t.Kind == api.KBool {
			text = []string{"false", "true"}[first.n]
		}
		for _, b := range []byte(text + "\n") {
			if len(r.report.Out) == api.MaxOut {
				r.finish(api.OutFull, 0, 0)
			}
			r.report.Out = append(r.report.Out, b)
			r.count.Work++
		}
		return nil
	case "panic":
		r.finish(api.Trapped, api.TrapPanic, first.n)
	case "len":
		return []worth{number(len(first.bytes) + first.length)}
	}
	return []worth{r.appended(given[0], given[1])}
}

func (r *second) appended(to, v worth) worth {
	s, t := to.cells[0], to.t.Kids[0]
	size := r.size(t)
	if s.length >= s.room {
		r.trapIf(s.length == api.MaxLen, api.TrapLarge)
		room := 4
		if s.length >= 4 {
			room = min(s.length*2, api.MaxLen)
		}
		at := r.reserve(room * size)
		r.made(room * r.boxes(t))
		copy(r.memory[at:], r.memory[s.n:s.n+s.length*size])
		s = cell{n: at, length: s.length, room: room}
	}
	r.give(seat{t, s.n + s.length*size}, v)
	r.made(1)
	s.length++
	return worth{to.t, []cell{s}}
}
