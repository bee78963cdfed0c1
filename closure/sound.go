package closure

import "halyard/api"

// sounder goes through a term, or through closed functions, and no further than MaxTerm nodes and MaxDepth: what shares memory with itself may have no end.
type sounder struct {
	left int // how many nodes may still come
	list []api.Body
}

// room: is there room for one more node, this deep?
func (s *sounder) room(deep int) bool {
	s.left--
	return s.left >= 0 && deep <= api.MaxDepth
}

func (s *sounder) term(t *api.Term, deep int) bool {
	if !s.room(deep) || !formed(t) {
		return false
	}
	for i := range t.Kids {
		if !s.term(&t.Kids[i], deep+1) {
			return false
		}
	}
	return true
}

// formed: has the node what its kind has, and nothing else?
func formed(t *api.Term) bool {
	hasName, hasNum, kids := false, false, 0
	switch t.Op {
	case api.MVar:
		hasName = true
	case api.MNum:
		hasNum = true
	case api.MLam:
		hasName, kids = true, 1
	case api.MApp, api.MAdd:
		kids = 2
	case api.MLet:
		hasName, kids = true, 2
	case api.MIf:
		kids = 3
	default:
		return false
	}
	return (hasName || t.Name == "") && (hasNum || t.Num == 0) && len(t.Kids) == kids
}

func soundList(list []api.Body) bool {
	if len(list) == 0 || len(list) > api.MaxTerm || list[0].Env != 0 {
		return false
	}
	s := sounder{left: api.MaxTerm, list: list}
	for f := range list {
		if list[f].Env < 0 || !s.closed(&list[f].Expr, place{function: f, deep: 1}) {
			return false
		}
	}
	return true
}

// place is where a node of closed functions stands; lets are the CLets around it in whose second it stands.
type place struct{ function, deep, lets int }

func (s *sounder) closed(x *api.Closed, at place) bool {
	if !s.room(at.deep) || !s.formedClosed(x, at) {
		return false
	}
	at.deep++
	for i := range x.Kids {
		inside := at
		if x.Op == api.CLet && i == 1 {
			inside.lets++
		}
		if !s.closed(&x.Kids[i], inside) {
			return false
		}
	}
	return true
}

// formedClosed: may the node stand there, with as many Kids as it has?
func (s *sounder) formedClosed(x *api.Closed, at place) bool {
	num, kids := x.Num == 0, 0
	switch x.Op {
	case api.CParam:
		num = num && at.function != 0
	case api.CEnv:
		num = within(x.Num, s.list[at.function].Env)
	case api.CLocal:
		num = within(x.Num, at.lets)
	case api.CNum:
		num = true
	case api.CMake:
		num = within(x.Num, len(s.list))
		if num {
			kids = s.list[x.Num].Env
		}
	case api.CApp, api.CAdd, api.CLet:
		kids = 2
	case api.CIf:
		kids = 3
	default:
		return false
	}
	return num && len(x.Kids) == kids
}

// within: is it one of the numbers 0 to count - 1?
func within(n, count int) bool { return n >= 0 && n < count }
