package parse

import "halyard/api"

func (p *parser) block() api.Node {
	return node(api.SBlock, "", p.members(p.statement)...)
}

func (p *parser) statement() api.Node {
	switch {
	case p.is("{"):
		return p.block()
	case p.take("if"):
		return p.ifStatement()
	case p.take("for"):
		return p.forStatement()
	}
	n := p.simple()
	p.need(";")
	return n
}

// ifStatement and forStatement: their word is behind.

func (p *parser) ifStatement() api.Node {
	n := node(api.SIf, "", p.condition(), p.block())
	if !p.take("else") {
		return n
	}
	if p.take("if") {
		n.Kids = append(n.Kids, p.ifStatement())
	} else {
		n.Kids = append(n.Kids, p.block())
	}
	return n
}

func (p *parser) forStatement() api.Node {
	if p.is("{") {
		return node(api.SFor, "", p.block())
	}
	return node(api.SFor, "", p.condition(), p.block())
}

func (p *parser) condition() api.Node { return within(p, true, p.expression) }

// simple: a statement up to the ; behind it.
func (p *parser) simple() api.Node {
	switch {
	case p.take("var"):
		return p.variable()
	case p.take("break"):
		return node(api.SBreak, "")
	case p.take("continue"):
		return node(api.SNext, "")
	case p.take("return"):
		if p.is(";") {
			return node(api.SReturn, "")
		}
		return node(api.SReturn, "", p.expressions()...)
	}
	return p.assignment()
}

func (p *parser) variable() api.Node {
	n := node(api.SVar, p.name(), p.typ())
	if p.take("=") {
		n.Kids = append(n.Kids, p.expression())
	}
	return n
}

// assignment: what stands first is known only by the mark behind it, at which it is told if it may not stand there.
func (p *parser) assignment() api.Node {
	first := p.expressions()
	switch {
	case p.is(":=") && every(first, isName):
		return p.assigned(api.SDefine, first)
	case p.is("=") && every(first, isPlace):
		return p.assigned(api.SAssign, first)
	case len(first) != 1, !isCall(first[0]):
		p.fault()
	}
	return node(api.SExpr, "", first...)
}

func (p *parser) assigned(kind int, first []api.Node) api.Node {
	p.next++
	n := node(kind, "", append(first, p.expressions()...)...)
	n.Num = len(first)
	return n
}

func isName(n api.Node) bool { return n.Kind == api.EName }
func isCall(n api.Node) bool { return n.Kind == api.ECall }

func isPlace(n api.Node) bool {
	return n.Kind == api.EName || n.Kind == api.ESel || n.Kind == api.EIndex || n.Kind == api.EUnary && n.Text == "*"
}
