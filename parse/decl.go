package parse

import "halyard/api"

func (p *parser) declaration() api.Node {
	if p.take("type") {
		return p.typeDeclaration()
	}
	p.need("func")
	if p.is("(") {
		receiver := between(p, "(", ")", p.receiver)
		return node(api.NMethod, p.name(), receiver, p.signature(), p.block())
	}
	return node(api.NFunc, p.name(), p.signature(), p.block())
}

func (p *parser) typeDeclaration() api.Node {
	name := p.name()
	if p.take("struct") {
		return node(api.NStruct, name, p.members(p.field)...)
	}
	p.need("interface")
	return node(api.NIface, name, p.members(p.method)...)
}

func (p *parser) members(member func() api.Node) []api.Node {
	return between(p, "{", "}", func() []api.Node { return upTo(p, "}", member) })
}

func (p *parser) field() api.Node {
	n := node(api.NField, p.name(), p.typ())
	p.need(";")
	return n
}

func (p *parser) method() api.Node {
	n := node(api.NField, p.name(), p.signature())
	p.need(";")
	return n
}

func (p *parser) receiver() api.Node {
	name := p.name()
	p.need("*")
	return node(api.NParam, name, node(api.TyPtr, "", node(api.TyName, p.name())))
}

func (p *parser) parameter() api.Node {
	return node(api.NParam, p.name(), p.typ())
}

func (p *parser) signature() api.Node {
	return p.function(api.NSig, p.parameter)
}

// function: a signature or a type of functions; they differ in what a parameter is.
func (p *parser) function(kind int, parameter func() api.Node) api.Node {
	parameters := listed(p, "(", ")", parameter)
	n := node(kind, "", append(parameters, p.results()...)...)
	n.Num = len(parameters)
	return n
}

func (p *parser) results() []api.Node {
	if p.is("(") {
		return between(p, "(", ")", p.types)
	}
	if p.atType() {
		return []api.Node{p.typ()}
	}
	return nil
}

func (p *parser) types() []api.Node { return commas(p, p.typ) }

// atType: can a type begin with the token that stands next?
func (p *parser) atType() bool {
	return p.token().Kind == api.TName || p.is("*") || p.is("[") || p.is("func")
}

func (p *parser) typ() api.Node {
	if p.token().Kind == api.TName {
		return node(api.TyName, p.name())
	}
	if p.take("*") {
		return node(api.TyPtr, "", p.typ())
	}
	if p.take("[") {
		p.need("]")
		return node(api.TySlice, "", p.typ())
	}
	p.need("func")
	return p.function(api.TyFunc, p.typ)
}
