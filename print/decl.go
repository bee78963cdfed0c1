package print

import "halyard/api"

func (p *printer) program(n api.Node) { each(n.Kids, p.declaration) }

func (p *printer) declaration(n api.Node) {
	switch n.Kind {
	case api.NStruct:
		p.put("type", n.Text, "struct")
		p.members(n.Kids, p.field)
	case api.NIface:
		p.put("type", n.Text, "interface")
		p.members(n.Kids, p.method)
	case api.NFunc:
		p.put("func", n.Text)
		p.signature(n.Kids[0])
		p.block(n.Kids[1])
	case api.NMethod:
		p.put("func")
		p.listed("(", ")", n.Kids[:1], p.parameter)
		p.put(n.Text)
		p.signature(n.Kids[1])
		p.block(n.Kids[2])
	}
}

func (p *printer) field(n api.Node) {
	p.put(n.Text)
	p.typ(n.Kids[0])
	p.put(";")
}

func (p *printer) method(n api.Node) {
	p.put(n.Text)
	p.signature(n.Kids[0])
	p.put(";")
}

func (p *printer) parameter(n api.Node) {
	p.put(n.Text)
	p.typ(n.Kids[0])
}

func (p *printer) signature(n api.Node) { p.function(n, p.parameter) }

// function: a signature or a type of functions; they differ in what a parameter is. The grammar asks for brackets around several results alone.
func (p *printer) function(n api.Node, parameter writing) {
	p.listed("(", ")", n.Kids[:n.Num], parameter)
	results := n.Kids[n.Num:]
	if len(results) > 1 {
		p.listed("(", ")", results, p.typ)
		return
	}
	each(results, p.typ)
}

func (p *printer) typ(n api.Node) {
	switch n.Kind {
	case api.TyName:
		p.put(n.Text)
	case api.TyPtr:
		p.put("*")
		p.typ(n.Kids[0])
	case api.TySlice:
		p.put("[", "]")
		p.typ(n.Kids[0])
	case api.TyFunc:
		p.put("func")
		p.function(n, p.typ)
	}
}
