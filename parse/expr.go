package parse

import "halyard/api"

func (p *parser) expressions() []api.Node { return commas(p, p.expression) }

func (p *parser) expression() api.Node { return p.binary(1) }

// rank: how close a binary operator binds; 0 is no binary operator.
func rank(operator string) int {
	switch operator {
	case "||":
		return 1
	case "&&":
		return 2
	case "==", "!=", "<", "<=", ">", ">=":
		return 3
	case "+", "-":
		return 4
	case "*", "/", "%":
		return 5
	}
	return 0
}

func isPrefix(operator string) bool {
	return operator == "-" || operator == "!" || operator == "&" || operator == "*"
}

// mark: the mark that stands next, or the end's, which is no operator.
func (p *parser) mark() string {
	if t := p.token(); t.Kind == api.TMark {
		return t.Text
	}
	return end
}

// binary: an expression of operators that bind at least so close. Its right side binds closer, as those of one rank stand to the left.
func (p *parser) binary(least int) api.Node {
	left := p.unary()
	for rank(p.mark()) >= least {
		operator := p.mark()
		p.next++
		left = node(api.EBinary, operator, left, p.binary(rank(operator)+1))
	}
	return left
}

func (p *parser) unary() api.Node {
	operator := p.mark()
	if !isPrefix(operator) {
		return p.post()
	}
	p.next++
	return node(api.EUnary, operator, p.unary())
}

func (p *parser) post() api.Node {
	n := p.primary()
	for {
		switch {
		case p.take("."):
			n = node(api.ESel, p.name(), n)
		case p.is("["):
			n = between(p, "[", "]", func() api.Node { return p.part(n) })
		case p.is("("):
			n = node(api.ECall, "", append([]api.Node{n}, listed(p, "(", ")", p.expression)...)...)
		default:
			return n
		}
	}
}

// part: an element or a cut of something, by what stands between [ and ].
func (p *parser) part(whole api.Node) api.Node {
	cut := node(api.ECut, "", whole)
	if !p.is(":") {
		begin := p.expression()
		if !p.is(":") {
			return node(api.EIndex, "", whole, begin)
		}
		cut.Num, cut.Kids = 1, append(cut.Kids, begin)
	}
	p.need(":")
	if !p.is("]") {
		cut.Num, cut.Kids = cut.Num+2, append(cut.Kids, p.expression())
	}
	return cut
}

func (p *parser) primary() api.Node {
	t := p.token()
	switch t.Kind {
	case api.TInt:
		p.next++
		return api.Node{Kind: api.EInt, Num: t.Num}
	case api.TStr:
		p.next++
		return node(api.EStr, t.Text)
	case api.TName:
		return p.named()
	}
	switch {
	case p.take("true"):
		return api.Node{Kind: api.EBool, Num: 1}
	case p.take("false"):
		return node(api.EBool, "")
	case p.take("nil"):
		return node(api.ENil, "")
	case p.is("("):
		return between(p, "(", ")", p.expression)
	case p.take("["):
		p.need("]")
		return node(api.EList, "", append([]api.Node{p.typ()}, p.elements()...)...)
	}
	p.need("func")
	return node(api.EFunc, "", p.signature(), p.block())
}

func (p *parser) named() api.Node {
	name := p.name()
	if p.is("{") && !p.head {
		return node(api.ELit, name, p.elements()...)
	}
	return node(api.EName, name)
}

func (p *parser) elements() []api.Node { return listed(p, "{", "}", p.expression) }
