package check

import "halyard/api"

// scope: the variables of a block, or of parameters, within the scope around it; nil is the outermost one.
type scope struct {
	outer     *scope
	variables map[string]api.Type
}

func (s *scope) inner() *scope { return &scope{outer: s, variables: map[string]api.Type{}} }

func (s *scope) declare(name string, t api.Type) {
	_, twice := s.variables[name]
	require(!twice)
	s.variables[name] = t
}

func (s *scope) find(name string) (api.Type, bool) {
	for ; s != nil; s = s.outer {
		if t, ok := s.variables[name]; ok {
			return t, true
		}
	}
	return api.Type{}, false
}

// checker checks what stands at one place of a program. Its methods are called with a copy of it, which they may change for what stands further inside.
type checker struct {
	program
	scope   *scope
	results []api.Type // of the function around
	looping bool       // an SFor of that function is around
}

func (c checker) declaration(n api.Node) {
	switch n.Kind {
	case api.NFunc:
		c.function(nil, n.Kids[0], n.Kids[1])
	case api.NMethod:
		c.function(n.Kids[:1], n.Kids[1], n.Kids[2])
	}
}

// function: of a function, a method (with its receiver) or a literal; its type.
func (c checker) function(receiver []api.Node, signature, body api.Node) api.Type {
	t := c.written(signature)
	c.scope = c.scope.inner()
	c.parameters(receiver)
	c.parameters(signature.Kids[:signature.Num])
	c.results = t.Kids[t.Num:]
	c.looping = false
	c.block(body)
	require(len(c.results) == 0 || ends(body))
	return t
}

func (c checker) parameters(list []api.Node) {
	for _, n := range list {
		c.scope.declare(n.Text, typeOf(n.Kids[0]))
	}
}
