package print

import (
	"strconv"

	"halyard/api"
	"halyard/scan"
)

// expression: what stands between brackets of its own has them wherever it stands.
func (p *printer) expression(n api.Node) {
	switch n.Kind {
	case api.EInt, api.EStr, api.EBool, api.ENil, api.EName:
		p.put(leaf(n))
	case api.ELit:
		p.put("(", n.Text)
		p.elements(n.Kids)
		p.put(")")
	case api.EList:
		p.put("[", "]")
		p.typ(n.Kids[0])
		p.elements(n.Kids[1:])
	case api.EFunc:
		p.put("func")
		p.signature(n.Kids[0])
		p.block(n.Kids[1])
	case api.EUnary:
		p.put("(", n.Text)
		p.expression(n.Kids[0])
		p.put(")")
	case api.EBinary:
		p.put("(")
		p.expression(n.Kids[0])
		p.put(n.Text)
		p.expression(n.Kids[1])
		p.put(")")
	default:
		p.expression(n.Kids[0])
		p.behind(n)
	}
}

// leaf: the one token of an expression without kids.
func leaf(n api.Node) string {
	switch n.Kind {
	case api.EInt:
		return strconv.Itoa(n.Num)
	case api.EStr:
		return scan.Quote(n.Text)
	case api.EBool:
		return truth(n.Num)
	case api.ENil:
		return "nil"
	}
	return n.Text
}

func truth(num int) string {
	if num == 1 {
		return "true"
	}
	return "false"
}

func (p *printer) elements(list []api.Node) { p.listed("{", "}", list, p.expression) }

// behind: what stands behind the first of an expression's kids.
func (p *printer) behind(n api.Node) {
	rest := n.Kids[1:]
	switch n.Kind {
	case api.ESel:
		p.put(".", n.Text)
	case api.EIndex:
		p.listed("[", "]", rest, p.expression)
	case api.ECut:
		p.cut(n.Num, rest)
	case api.ECall:
		p.listed("(", ")", rest, p.expression)
	}
}

// cut: the number's lowest bit tells whether there is a beginning; what is left then is the end, if there is one.
func (p *printer) cut(num int, edges []api.Node) {
	begins := num & 1
	p.put("[")
	each(edges[:begins], p.expression)
	p.put(":")
	each(edges[begins:], p.expression)
	p.put("]")
}
