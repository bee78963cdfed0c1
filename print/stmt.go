package print

import "halyard/api"

func (p *printer) block(n api.Node) { p.members(n.Kids, p.statement) }

func (p *printer) statement(n api.Node) {
	switch n.Kind {
	case api.SBlock:
		p.block(n)
	case api.SIf:
		p.ifStatement(n)
	case api.SFor:
		p.forStatement(n)
	default:
		p.simple(n)
		p.put(";")
	}
}

func (p *printer) ifStatement(n api.Node) {
	p.put("if")
	p.expression(n.Kids[0])
	p.block(n.Kids[1])
	if len(n.Kids) > 2 {
		p.put("else")
		p.statement(n.Kids[2])
	}
}

func (p *printer) forStatement(n api.Node) {
	body := len(n.Kids) - 1
	p.put("for")
	each(n.Kids[:body], p.expression)
	p.block(n.Kids[body])
}

// simple: a statement up to the ; behind it.
func (p *printer) simple(n api.Node) {
	switch n.Kind {
	case api.SVar:
		p.variable(n)
	case api.SDefine:
		p.assigned(n, ":=")
	case api.SAssign:
		p.assigned(n, "=")
	case api.SExpr:
		p.expression(n.Kids[0])
	case api.SReturn:
		p.put("return")
		p.commas(n.Kids, p.expression)
	case api.SBreak:
		p.put("break")
	case api.SNext:
		p.put("continue")
	}
}

func (p *printer) variable(n api.Node) {
	p.put("var", n.Text)
	p.typ(n.Kids[0])
	if len(n.Kids) > 1 {
		p.put("=")
		p.expression(n.Kids[1])
	}
}

func (p *printer) assigned(n api.Node, mark string) {
	p.commas(n.Kids[:n.Num], p.expression)
	p.put(mark)
	p.commas(n.Kids[n.Num:], p.expression)
}
