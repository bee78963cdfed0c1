package check_test

import (
	"slices"
	"strings"

	"halyard/api"
)

// A second checker: types are texts, variables stand in one list, each expression answers a text of what it is, and a fault is noted, not given up with.

// second: what a program declares, by texts.
type second struct {
	kinds   map[string]string      // by a type's name: struct or interface
	fields  map[string][][2]string // by a struct's name: names and types
	methods map[string][][2]string // by a type's name
	funcs   map[string]string
	parts   map[string][2][]string // by a function type's text: parameters and results
	vars    []known
	block   int // where the innermost block's variables begin
	loops   int
	results []string
	fault   bool
}

type known struct{ name, text string }

// value: the texts of an expression's results; is it a place?
type value struct {
	texts []string
	place bool
}

func newSecond() *second {
	return &second{kinds: map[string]string{}, fields: map[string][][2]string{}, methods: map[string][][2]string{}, funcs: map[string]string{}, parts: map[string][2][]string{}}
}

// referredTable: what Table answers of a sound program, as a text.
func referredTable(n api.Node) (string, api.Errno) {
	s := newSecond()
	if e := s.declare(n.Kids); e != api.OK {
		return "", e
	}
	text := ""
	for _, d := range n.Kids {
		if d.Kind == api.NStruct || d.Kind == api.NIface {
			text += declText(s.kinds[d.Text], d.Text, s.fields[d.Text], s.methods[d.Text])
		}
	}
	return text, api.OK
}

func declText(kind, name string, fields, methods [][2]string) string {
	text := kind + " " + name
	for _, one := range fields {
		text += ", " + one[0] + " " + one[1]
	}
	text += ":"
	for _, one := range methods {
		text += " " + one[0] + " " + one[1]
	}
	return text + "\n"
}

// tableText: of what Table answers.
func tableText(list []api.Decl) string {
	text := ""
	for _, one := range list {
		kind := "struct"
		if one.Iface {
			kind = "interface"
		}
		text += declText(kind, one.Name, memberTexts(one.Fields), memberTexts(one.Methods))
	}
	return text
}

func memberTexts(list []api.Field) [][2]string {
	var out [][2]string
	for _, f := range list {
		out = append(out, [2]string{f.Name, typeText(f.Type)})
	}
	return out
}

func typeText(t api.Type) string {
	switch t.Kind {
	case api.KInt, api.KBool, api.KStr, api.KName:
		return []string{"int", "bool", "string", t.Name}[t.Kind-api.KInt]
	case api.KPtr:
		return "*" + typeText(t.Kids[0])
	case api.KSlice:
		return "[]" + typeText(t.Kids[0])
	}
	var list []string
	for _, kid := range t.Kids {
		list = append(list, typeText(kid))
	}
	text := "func(" + strings.Join(list[:t.Num], ",") + ")"
	if t.Num < len(list) {
		text += "(" + strings.Join(list[t.Num:], ",") + ")"
	}
	return text
}

// referred: what Check answers of a sound program.
func referred(n api.Node) api.Errno {
	s := newSecond()
	if e := s.declare(n.Kids); e != api.OK {
		return e
	}
	for _, d := range n.Kids {
		if d.Kind == api.NFunc {
			s.need(s.funcs[d.Text] == "" && !slices.Contains(builtins, d.Text))
			s.funcs[d.Text] = s.text(d.Kids[0])
		}
	}
	s.need(s.funcs["main"] == "func()")
	for _, d := range n.Kids {
		s.decl(d)
	}
	if s.fault {
		return api.ErrType
	}
	return api.OK
}

func (s *second) need(kept bool) { s.fault = s.fault || !kept }

// text: of a type or a signature.
func (s *second) text(n api.Node) string {
	switch n.Kind {
	case api.TyName:
		return n.Text
	case api.NParam:
		return s.text(n.Kids[0])
	case api.TyPtr:
		return "*" + s.text(n.Kids[0])
	case api.TySlice:
		return "[]" + s.text(n.Kids[0])
	}
	var list []string
	for _, kid := range n.Kids {
		list = append(list, s.text(kid))
	}
	text := "func(" + strings.Join(list[:n.Num], ",") + ")(" + strings.Join(list[n.Num:], ",") + ")"
	if n.Num == len(list) {
		text = strings.TrimSuffix(text, "()")
	}
	s.parts[text] = [2][]string{list[:n.Num], list[n.Num:]}
	return text
}

// names: all names that a type's or a signature's node has.
func names(n api.Node) []string {
	if n.Kind == api.TyName {
		return []string{n.Text}
	}
	var out []string
	for _, kid := range n.Kids {
		out = append(out, names(kid)...)
	}
	return out
}

func (s *second) known(n api.Node) bool {
	return !slices.ContainsFunc(names(n), func(name string) bool { return s.kinds[name] == "" })
}

// declare: the types, and the error of Table.
func (s *second) declare(list []api.Node) api.Errno {
	var wrong, orphan bool
	count := 0
	for _, name := range []string{"int", "bool", "string"} {
		s.kinds[name] = "plain"
	}
	for _, d := range list {
		if d.Kind == api.NStruct || d.Kind == api.NIface {
			count++
			wrong = wrong || s.kinds[d.Text] != ""
			if s.kinds[d.Text] != "struct" {
				s.kinds[d.Text] = map[int]string{api.NStruct: "struct", api.NIface: "interface"}[d.Kind]
			}
		}
	}
	large := count > api.MaxTypes
	for _, d := range list {
		switch d.Kind {
		case api.NStruct, api.NIface:
			large = large || len(d.Kids) > api.MaxFields
			for _, m := range d.Kids {
				s.member(d.Kind == api.NStruct, d.Text, m.Text, m.Kids[0])
				wrong = wrong || !s.known(m.Kids[0]) || s.kinds[m.Kids[0].Text] == "struct"
			}
		case api.NMethod:
			of := names(d.Kids[0])[0]
			orphan = orphan || s.kinds[of] != "struct"
			s.member(false, of, d.Text, d.Kids[1])
			wrong = wrong || !s.known(d.Kids[1])
			large = large || len(s.methods[of]) > api.MaxFields
		}
	}
	for name := range s.kinds {
		wrong = wrong || repeats(slices.Concat(s.fields[name], s.methods[name]))
	}
	switch {
	case orphan:
		return api.ErrType
	case large:
		return api.ErrLarge
	case wrong:
		return api.ErrType
	}
	return api.OK
}

func (s *second) member(isField bool, of, name string, n api.Node) {
	list := s.methods
	if isField {
		list = s.fields
	}
	list[of] = append(list[of], [2]string{name, s.text(n)})
}

func repeats(list [][2]string) bool {
	for i, a := range list {
		for _, b := range list[:i] {
			if a[0] == b[0] {
				return true
			}
		}
	}
	return false
}

func find(list [][2]string, name string) (string, bool) {
	for _, one := range list {
		if one[0] == name {
			return one[1], true
		}
	}
	return "", false
}

var builtins = []string{"print", "panic", "len", "append"}

func (s *second) decl(d api.Node) {
	switch d.Kind {
	case api.NFunc:
		s.function(nil, d.Kids[0], d.Kids[1])
	case api.NMethod:
		s.function(d.Kids[:1], d.Kids[1], d.Kids[2])
	}
}

func (s *second) function(ahead []api.Node, sig, body api.Node) string {
	old := *s
	s.need(s.known(sig))
	text := s.text(sig)
	s.block = len(s.vars)
	s.loops = 0
	s.results = s.parts[text][1]
	for _, p := range slices.Concat(ahead, sig.Kids[:sig.Num]) {
		s.add(p.Text, s.text(p))
	}
	s.stmts(body)
	s.need(len(s.results) == 0 || lastEnds(body))
	s.vars, s.block, s.loops, s.results = old.vars, old.block, old.loops, old.results
	return text
}

func (s *second) add(name, text string) {
	for _, one := range s.vars[s.block:] {
		s.need(one.name != name)
	}
	s.vars = append(slices.Clip(s.vars), known{name, text})
}

func (s *second) stmts(n api.Node) {
	vars, block := s.vars, s.block
	s.block = len(s.vars)
	for _, kid := range n.Kids {
		s.stmt(kid)
	}
	s.vars, s.block = vars, block
}

func (s *second) stmt(n api.Node) {
	switch n.Kind {
	case api.SBlock:
		s.stmts(n)
	case api.SVar:
		s.need(s.known(n.Kids[0]))
		for _, v := range n.Kids[1:] {
			s.gives([]string{s.text(n.Kids[0])}, s.single(v))
		}
		s.add(n.Text, s.text(n.Kids[0]))
	case api.SDefine:
		s.define(n.Kids[:n.Num], s.spread(n.Kids[n.Num:]))
	case api.SAssign:
		var to []string
		for _, p := range n.Kids[:n.Num] {
			v := s.expr(p)
			s.need(v.place)
			to = append(to, v.texts...)
		}
		s.gives(to, s.spread(n.Kids[n.Num:]))
	case api.SExpr:
		s.need(!s.means(n.Kids[0].Kids[0], "len") && !s.means(n.Kids[0].Kids[0], "append"))
		s.expr(n.Kids[0])
	case api.SReturn:
		s.gives(s.results, s.spread(n.Kids))
	case api.SBreak, api.SNext:
		s.need(s.loops > 0)
	case api.SIf:
		s.need(s.is("bool", n.Kids[0]))
		for _, kid := range n.Kids[1:] {
			s.stmt(kid)
		}
	case api.SFor:
		s.need(len(n.Kids) == 1 || s.is("bool", n.Kids[0]))
		s.loops++
		s.stmts(n.Kids[len(n.Kids)-1])
		s.loops--
	}
}

func (s *second) define(to []api.Node, texts []string) {
	s.need(len(to) == len(texts))
	for i, n := range to {
		if i < len(texts) {
			s.need(texts[i] != "nil")
			s.add(n.Text, texts[i])
		}
	}
}

// lastEnds: P5.3, by what the last statement is not.
func lastEnds(n api.Node) bool {
	if n.Kind == api.SBlock {
		if len(n.Kids) == 0 {
			return false
		}
		n = n.Kids[len(n.Kids)-1]
	}
	switch n.Kind {
	case api.SVar, api.SDefine, api.SAssign, api.SBreak, api.SNext:
		return false
	case api.SExpr:
		f := n.Kids[0].Kids[0]
		return same(f, tree(api.EName, "panic", 0))
	case api.SIf:
		return len(n.Kids) > 2 && !slices.ContainsFunc(n.Kids[1:], func(kid api.Node) bool { return !lastEnds(kid) })
	case api.SFor:
		return len(n.Kids) == 1 && breaks(n.Kids[0]) == 0
	case api.SBlock:
		return lastEnds(n)
	}
	return n.Kind == api.SReturn
}

// breaks: how many SBreaks belong to the SFor whose block it is.
func breaks(n api.Node) int {
	count := 0
	for _, kid := range n.Kids {
		if kid.Kind == api.SBreak {
			count++
		}
		if kid.Kind == api.SBlock || kid.Kind == api.SIf {
			count += breaks(kid)
		}
	}
	return count
}

// single: the texts of values; each one's that is no value is a fault.
func (s *second) single(list ...api.Node) []string {
	var out []string
	for _, n := range list {
		v := s.expr(n)
		s.need(len(v.texts) == 1)
		out = append(out, v.texts...)
	}
	return out
}

// spread: of values, or of one call with some results.
func (s *second) spread(list []api.Node) []string {
	if len(list) == 1 && list[0].Kind == api.ECall {
		v := s.expr(list[0])
		s.need(len(v.texts) > 0)
		return v.texts
	}
	return s.single(list...)
}

func (s *second) is(text string, list ...api.Node) bool {
	for _, got := range s.single(list...) {
		if got != text {
			return false
		}
	}
	return true
}

func (s *second) gives(to, from []string) {
	s.need(len(to) == len(from))
	for i := range min(len(to), len(from)) {
		s.need(s.assignable(from[i], to[i]))
	}
}

// deep: how many types are on a way.
func (s *second) deep(text string) int {
	bare := strings.TrimLeft(text, "*[]")
	most := 0
	for _, list := range s.parts[bare] {
		for _, part := range list {
			most = max(most, s.deep(part))
		}
	}
	return strings.Count(text[:len(text)-len(bare)], "*") + strings.Count(text[:len(text)-len(bare)], "[") + 1 + most
}

func (s *second) nilable(text string) bool {
	return s.deep(text) <= api.MaxDepth && (strings.ContainsAny(text[:1], "*[") || strings.HasPrefix(text, "func(") || s.kinds[text] == "interface")
}

func (s *second) assignable(from, to string) bool {
	switch {
	case from == "nil":
		return s.nilable(to)
	case from == to:
		return s.deep(to) <= api.MaxDepth
	case from[0] != '*' || s.kinds[from[1:]] != "struct" || s.kinds[to] != "interface":
		return false
	}
	for _, m := range s.methods[to] {
		if got, ok := find(s.methods[from[1:]], m[0]); !ok || got != m[1] {
			return false
		}
	}
	return true
}

func (s *second) comparable(a, b string) bool {
	if a == "nil" {
		a, b = b, a
	}
	switch {
	case a == "nil":
		return false
	case b == "nil":
		return s.nilable(a)
	}
	return a == b && s.deep(a) <= api.MaxDepth && (s.kinds[a] == "plain" || s.kinds[a] == "interface" || a[0] == '*')
}
