package check_test

import (
	"slices"
	"strings"

	"halyard/api"
)

// Expressions of the second checker.

func (s *second) variable(name string) (string, bool) {
	for i := len(s.vars) - 1; i >= 0; i-- {
		if s.vars[i].name == name {
			return s.vars[i].text, true
		}
	}
	return "", false
}

func (s *second) means(n api.Node, name string) bool {
	_, hidden := s.variable(name)
	return same(n, tree(api.EName, name, 0)) && !hidden
}

func one(text string) value   { return value{texts: []string{text}} }
func place(text string) value { return value{texts: []string{text}, place: true} }

// none: what is a fault has no results.
func (s *second) none() value {
	s.fault = true
	return value{}
}

// rules: an operator's operands and its result.
var rules = strings.Fields(`
	-int=int !bool=bool
	int+int=int string+string=string int-int=int int*int=int int/int=int int%int=int
	int<int=bool int<=int=bool int>int=bool int>=int=bool string<string=bool string<=string=bool string>string=bool string>=string=bool
	bool&&bool=bool bool||bool=bool`)

func (s *second) byRule(left string) value {
	for _, rule := range rules {
		if result, ok := strings.CutPrefix(rule, left+"="); ok && !strings.Contains(result, "=") {
			return one(result)
		}
	}
	return s.none()
}

func (s *second) expr(n api.Node) value {
	switch n.Kind {
	case api.EInt:
		return one("int")
	case api.EStr:
		return one("string")
	case api.EBool:
		return one("bool")
	case api.ENil:
		return one("nil")
	case api.EFunc:
		return one(s.function(nil, n.Kids[0], n.Kids[1]))
	case api.EList:
		s.need(s.known(n.Kids[0]))
		text := s.text(n.Kids[0])
		s.gives(slices.Repeat([]string{text}, len(n.Kids)-1), s.single(n.Kids[1:]...))
		return one("[]" + text)
	case api.ELit:
		s.need(s.kinds[n.Text] == "struct")
		var to []string
		for _, f := range s.fields[n.Text] {
			to = append(to, f[1])
		}
		s.gives(to, s.single(n.Kids...))
		return one(n.Text)
	case api.ECall:
		return s.call(n.Kids[0], n.Kids[1:])
	case api.EName:
		return s.name(n.Text)
	}
	return s.combined(n)
}

func (s *second) name(name string) value {
	if text, ok := s.variable(name); ok {
		return place(text)
	}
	if text := s.funcs[name]; text != "" {
		return one(text)
	}
	return s.none()
}

func (s *second) combined(n api.Node) value {
	first := s.expr(n.Kids[0])
	if len(first.texts) != 1 {
		return s.none()
	}
	text := first.texts[0]
	switch n.Kind {
	case api.ESel:
		return s.field(first, n.Text)
	case api.EIndex:
		s.need(s.is("int", n.Kids[1]))
		if element, ok := strings.CutPrefix(text, "[]"); ok {
			return place(element)
		}
		s.need(text == "string")
		return one("int")
	case api.ECut:
		s.need(s.is("int", n.Kids[1:]...) && (text == "string" || strings.HasPrefix(text, "[]")))
		return one(text)
	case api.EBinary:
		return s.binary(text, n.Text, s.single(n.Kids[1]))
	}
	switch {
	case n.Text == "*" && text[0] == '*':
		return place(text[1:])
	case n.Text == "&" && (first.place || n.Kids[0].Kind == api.ELit):
		return one("*" + text)
	}
	return s.byRule(n.Text + text)
}

func (s *second) binary(left, operator string, right []string) value {
	switch {
	case len(right) != 1:
		return s.none()
	case operator == "==" || operator == "!=":
		s.need(s.comparable(left, right[0]))
		return one("bool")
	}
	return s.byRule(left + operator + right[0])
}

func (s *second) field(of value, name string) value {
	bare, pointed := strings.CutPrefix(of.texts[0], "*")
	text, ok := find(s.fields[bare], name)
	if !ok {
		return s.none()
	}
	return value{texts: []string{text}, place: of.place || pointed}
}

func (s *second) call(f api.Node, arguments []api.Node) value {
	for _, name := range builtins {
		if s.means(f, name) {
			return s.builtin(name, s.single(arguments...))
		}
	}
	var called value
	if f.Kind == api.ESel {
		called = s.callee(s.expr(f.Kids[0]), f.Text)
	} else {
		called = s.expr(f)
	}
	given := s.single(arguments...)
	if len(called.texts) != 1 || !strings.HasPrefix(called.texts[0], "func(") {
		return s.none()
	}
	parts := s.parts[called.texts[0]]
	s.gives(parts[0], given)
	return value{texts: parts[1]}
}

// callee: what is called by a name of something: a method, or a field.
func (s *second) callee(of value, name string) value {
	if len(of.texts) != 1 {
		return s.none()
	}
	text := of.texts[0]
	if s.kinds[text] == "interface" || s.kinds[text] == "struct" && of.place {
		if m, ok := find(s.methods[text], name); ok {
			return one(m)
		}
	}
	if text[0] == '*' && s.kinds[text[1:]] == "struct" {
		if m, ok := find(s.methods[text[1:]], name); ok {
			return one(m)
		}
	}
	return s.field(of, name)
}

func (s *second) builtin(name string, given []string) value {
	line := name + " " + strings.Join(given, " ")
	switch {
	case line == "print int" || line == "print bool" || line == "print string" || line == "panic int":
		return value{}
	case line == "len string" || len(given) == 1 && strings.HasPrefix(line, "len []"):
		return one("int")
	case len(given) == 2 && name == "append" && strings.HasPrefix(given[0], "[]"):
		s.gives([]string{given[0][2:]}, given[1:])
		return one(given[0])
	}
	return s.none()
}
