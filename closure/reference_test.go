package closure_test

import (
	"bytes"
	"slices"
	"strconv"
	"strings"
	"testing"

	"halyard/api"
	"halyard/closure"
)

// laid is a node of a term whose nodes lie in one list, in the order in which they begin: it knows what is around it, and which of Kids it is there.
type laid struct {
	api.Term
	around, kid, size int
}

// layout is a second way to tell what names mean: from an MVar outwards.
type layout []laid

func layoutOf(t api.Term) layout {
	var l layout
	l.lay(t, -1, 0)
	return l
}

func (l *layout) lay(t api.Term, around, kid int) {
	at := len(*l)
	*l = append(*l, laid{Term: t, around: around, kid: kid})
	for i, k := range t.Kids {
		l.lay(k, at, i)
	}
	(*l)[at].size = len(*l) - at
}

// binder: the nearest node around one that binds a name there; -1, if there is none.
func (l layout) binder(at int, name string) int {
	for ; at > 0; at = l[at].around {
		n := l[l[at].around]
		if n.Name == name && (n.Op == api.MLam || n.Op == api.MLet && l[at].kid == 1) {
			return l[at].around
		}
	}
	return -1
}

// free: the names that stand free in the part that begins at a node.
func (l layout) free(at int) []string {
	found := map[string]bool{}
	for i := at; i < at+l[at].size; i++ {
		if l[i].Op == api.MVar && l.binder(i, l[i].Name) < at {
			found[l[i].Name] = true
		}
	}
	names := []string{}
	for name := range found {
		names = append(names, name)
	}
	slices.SortFunc(names, func(a, b string) int { return bytes.Compare([]byte(a), []byte(b)) })
	return names
}

// names: of each node the name that it has after renaming, new telling those of binders.
func (l layout) names(next func() string) []string {
	names := make([]string, len(l))
	for i, n := range l {
		names[i] = n.Name
		if n.Op == api.MLam || n.Op == api.MLet {
			names[i] = next()
		}
		if by := l.binder(i, n.Name); n.Op == api.MVar && by >= 0 {
			names[i] = names[by]
		}
	}
	return names
}

// built: the term again, with other names.
func (l layout) built(at int, names []string) api.Term {
	out := api.Term{Op: l[at].Op, Name: names[at], Num: l[at].Num}
	for i := at + 1; i < at+l[at].size; i += l[i].size {
		out.Kids = append(out.Kids, l.built(i, names))
	}
	return out
}

func secondRename(t api.Term) api.Term {
	l, count := layoutOf(t), 0
	free := l.free(0)
	return l.built(0, l.names(func() string {
		for {
			count++
			if name := "x" + strconv.Itoa(count); !slices.Contains(free, name) {
				return name
			}
		}
	}))
}

// secondSubst: first all binders get names that are longer than any other one, so that nothing can be caught.
func secondSubst(t api.Term, name string, by api.Term) (api.Term, api.Errno) {
	longest := len(name)
	for _, n := range append(layoutOf(t), layoutOf(by)...) {
		longest = max(longest, len(n.Name))
	}
	tag, count := strings.Repeat("t", longest+1), 0
	next := func() string {
		count++
		return tag + strconv.Itoa(count)
	}
	apart := func(x api.Term) api.Term { return layoutOf(x).built(0, layoutOf(x).names(next)) }
	out := putIn(apart(t), name, apart(by))
	if nodes, deep := measured(out); nodes > 4096 || deep > 100 {
		return api.Term{}, api.ErrLarge
	}
	return secondRename(out), api.OK
}

// putIn: all binders have other names than what is put in.
func putIn(t api.Term, name string, by api.Term) api.Term {
	if t.Op == api.MVar && t.Name == name {
		return by
	}
	kids := make([]api.Term, len(t.Kids))
	for i, k := range t.Kids {
		kids[i] = putIn(k, name, by)
	}
	t.Kids = kids
	return t
}

// measured: how many nodes, and how many on the longest way.
func measured(t api.Term) (nodes, deep int) {
	l := layoutOf(t)
	for at := range l {
		way := 0
		for i := at; i >= 0; i = l[i].around {
			way++
		}
		deep = max(deep, way)
	}
	return len(l), deep
}

// secondSound: what each kind has, as letters: a Name, a Num, and a K for each of Kids.
func secondSound(t api.Term) bool {
	has := map[int]string{api.MVar: "N", api.MNum: "#", api.MLam: "NK", api.MApp: "KK", api.MAdd: "KK", api.MLet: "NKK", api.MIf: "KKK"}
	var deep func(t api.Term) int
	nodes, right := 0, true
	deep = func(t api.Term) int {
		nodes++
		parts, known := has[t.Op]
		right = right && known && strings.Count(parts, "K") == len(t.Kids) && (strings.Contains(parts, "N") || t.Name == "") && (strings.Contains(parts, "#") || t.Num == 0)
		most := 0
		for _, k := range t.Kids {
			most = max(most, deep(k))
		}
		return most + 1
	}
	way := deep(t)
	return right && nodes <= 4096 && way <= 100
}

// function: the MLam in whose body a node stands; -1 is the whole.
func (l layout) function(at int) int {
	for at = l[at].around; at >= 0 && l[at].Op != api.MLam; {
		at = l[at].around
	}
	return at
}

// number: of an MLam its function's.
func (l layout) number(at int) int {
	n := 0
	for i := 0; i <= at; i++ {
		if l[i].Op == api.MLam {
			n++
		}
	}
	return n
}

// meaning: what a name is at a node.
func (l layout) meaning(at int, name string) api.Closed {
	by, f := l.binder(at, name), l.function(at)
	switch {
	case by == f:
		return api.Closed{Op: api.CParam}
	case l[by].Op == api.MLet && l.function(by) == f:
		lets := 0
		for i := by; l[i].around > f; i = l[i].around {
			if l[l[i].around].Op == api.MLet && l[i].kid == 1 {
				lets++
			}
		}
		return api.Closed{Op: api.CLocal, Num: lets}
	}
	return api.Closed{Op: api.CEnv, Num: slices.Index(l.free(f), name)}
}

func (l layout) closed(at int) api.Closed {
	n := l[at]
	switch n.Op {
	case api.MVar:
		return l.meaning(at, n.Name)
	case api.MNum:
		return api.Closed{Op: api.CNum, Num: n.Num}
	case api.MLam:
		out := api.Closed{Op: api.CMake, Num: l.number(at)}
		for _, name := range l.free(at) {
			out.Kids = append(out.Kids, l.meaning(at, name))
		}
		return out
	}
	out := api.Closed{Op: map[int]int{api.MApp: api.CApp, api.MAdd: api.CAdd, api.MLet: api.CLet, api.MIf: api.CIf}[n.Op]}
	for i := at + 1; i < at+n.size; i += l[i].size {
		out.Kids = append(out.Kids, l.closed(i))
	}
	return out
}

func (l layout) functions() []api.Body {
	list := []api.Body{{Expr: l.closed(0)}}
	for i, n := range l {
		if n.Op == api.MLam {
			list = append(list, api.Body{Env: len(l.free(i)), Expr: l.closed(i + 1)})
		}
	}
	return list
}

// run is a second evaluation of either kind: functions are Go's own, and so are calls within one another.
type run struct {
	fuel, steps int
	list        []api.Body
}

type applied func(with any) any

func (r *run) number(v any) int {
	n, ok := v.(int)
	if !ok {
		panic(api.ErrKind)
	}
	return n
}

func (r *run) apply(f, with any) any {
	call, ok := f.(applied)
	if !ok {
		panic(api.ErrKind)
	}
	if r.steps++; r.steps > r.fuel {
		panic(api.ErrFull)
	}
	return call(with)
}

// term: names are what a map says, which is another one within each binder.
func (r *run) term(t api.Term, names map[string]any) any {
	with := func(v any) map[string]any {
		inner := map[string]any{}
		for name, old := range names {
			inner[name] = old
		}
		inner[t.Name] = v
		return inner
	}
	switch t.Op {
	case api.MVar:
		return names[t.Name]
	case api.MNum:
		return t.Num
	case api.MLam:
		return applied(func(v any) any { return r.term(t.Kids[0], with(v)) })
	case api.MLet:
		return r.term(t.Kids[1], with(r.term(t.Kids[0], names)))
	case api.MIf:
		if r.number(r.term(t.Kids[0], names)) != 0 {
			return r.term(t.Kids[1], names)
		}
		return r.term(t.Kids[2], names)
	}
	a := r.term(t.Kids[0], names)
	b := r.term(t.Kids[1], names)
	if t.Op == api.MApp {
		return r.apply(a, b)
	}
	return r.number(a) + r.number(b)
}

// closed: what a node of a function is there. Locals are a list that is copied for each CLet.
func (r *run) closed(x api.Closed, param any, env, locals []any) any {
	kid := func(i int) any { return r.closed(x.Kids[i], param, env, locals) }
	switch x.Op {
	case api.CParam:
		return param
	case api.CEnv:
		return env[x.Num]
	case api.CLocal:
		return locals[x.Num]
	case api.CNum:
		return x.Num
	case api.CMake:
		var brought []any
		for i := range x.Kids {
			brought = append(brought, kid(i))
		}
		return applied(func(v any) any { return r.closed(r.list[x.Num].Expr, v, brought, nil) })
	case api.CLet:
		return r.closed(x.Kids[1], param, env, append(slices.Clone(locals), kid(0)))
	case api.CIf:
		if r.number(kid(0)) != 0 {
			return kid(1)
		}
		return kid(2)
	}
	a := kid(0)
	b := kid(1)
	if x.Op == api.CApp {
		return r.apply(a, b)
	}
	return r.number(a) + r.number(b)
}

// ended: what comes of it.
func (r *run) ended(do func() any) (n, steps int, e api.Errno) {
	defer func() {
		if met := recover(); met != nil {
			n, steps, e = 0, 0, met.(api.Errno)
		}
	}()
	return r.number(do()), r.steps, api.OK
}

func secondEval(t api.Term, fuel int) (n, steps int, e api.Errno) {
	r := &run{fuel: fuel}
	return r.ended(func() any { return r.term(t, nil) })
}

func secondRun(list []api.Body, fuel int) (n, steps int, e api.Errno) {
	r := &run{fuel: fuel, list: list}
	return r.ended(func() any { return r.closed(list[0].Expr, nil, nil, nil) })
}

// secondSoundList goes through all nodes, with what each may be where it stands.
func secondSoundList(list []api.Body) bool {
	if len(list) < 1 || len(list) > 4096 || list[0].Env != 0 {
		return false
	}
	nodes, right := 0, true
	var look func(x api.Closed, f, way, seconds int)
	look = func(x api.Closed, f, way, seconds int) {
		nodes++
		kids, known := map[int]int{api.CParam: 0, api.CEnv: 0, api.CNum: 0, api.CLocal: 0, api.CApp: 2, api.CAdd: 2, api.CLet: 2, api.CIf: 3}[x.Op], x.Op >= 1 && x.Op <= 9
		nums := map[int]int{api.CParam: min(f, 1), api.CEnv: list[f].Env, api.CLocal: seconds, api.CMake: len(list), api.CApp: 1, api.CAdd: 1, api.CLet: 1, api.CIf: 1}[x.Op]
		if !known || way > 100 || x.Op != api.CNum && (x.Num < 0 || x.Num >= nums) {
			right = false
			return
		}
		if x.Op == api.CMake {
			kids = list[x.Num].Env
		}
		right = right && kids == len(x.Kids)
		for i, k := range x.Kids {
			inner := seconds
			if x.Op == api.CLet && i == 1 {
				inner++
			}
			look(k, f, way+1, inner)
		}
	}
	for f, b := range list {
		right = right && b.Env >= 0
		look(b.Expr, f, 1, 0)
	}
	return right && nodes <= 4096
}

// holdTerm holds all that is told of one term against the second way; it tells what Eval says.
func holdTerm(t *testing.T, x api.Term, fuels ...int) api.Errno {
	t.Helper()
	if !secondSound(x) {
		wantNoTerm(t, x)
		return api.ErrForm
	}
	if !closure.Sound(x) {
		t.Errorf("not sound: %s", brief(show(x)))
		return api.OK
	}
	l := layoutOf(x)
	free := l.free(0)
	wantFree(t, x, free...)
	wantRename(t, x, secondRename(x))
	list, e := closure.Convert(x)
	if len(free) > 0 {
		_, _, eval := closure.Eval(x, 5)
		if e != api.ErrNone || len(list) > 0 || eval != api.ErrNone {
			t.Errorf("%s: Convert %d, Eval %d", brief(show(x)), e, eval)
		}
		return api.ErrNone
	}
	wantConvert(t, x, l.functions())
	for _, fuel := range fuels {
		n, steps, met := secondEval(x, fuel)
		if met == api.OK {
			wantEval(t, x, fuel, n, steps)
		} else {
			wantEvalError(t, x, fuel, met)
		}
		e = met
	}
	return e
}

// holdSubst holds Subst against the second way.
func holdSubst(t *testing.T, x api.Term, name string, by api.Term) api.Errno {
	t.Helper()
	if !secondSound(x) || !secondSound(by) {
		wantSubstError(t, x, name, by, api.ErrForm)
		return api.ErrForm
	}
	want, e := secondSubst(x, name, by)
	if e != api.OK {
		wantSubstError(t, x, name, by, e)
		return e
	}
	wantSubst(t, x, name, by, want)
	return e
}

// holdList holds Run against the second way.
func holdList(t *testing.T, list []api.Body, fuel int) api.Errno {
	t.Helper()
	if !secondSoundList(list) {
		wantRunError(t, list, fuel, api.ErrForm)
		return api.ErrForm
	}
	n, steps, e := secondRun(list, fuel)
	if e == api.OK {
		wantRun(t, list, fuel, n, steps)
	} else {
		wantRunError(t, list, fuel, e)
	}
	return e
}
