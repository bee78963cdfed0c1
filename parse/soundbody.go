package parse

import "halyard/api"

func soundBlock(n api.Node) bool {
	return n.Kind == api.SBlock && bare(n) && every(n.Kids, soundStatement)
}

func soundIf(n api.Node) bool {
	return n.Kind == api.SIf && bare(n) &&
		(row(n.Kids, soundExpression, soundBlock) || row(n.Kids, soundExpression, soundBlock, soundElse))
}

func soundElse(n api.Node) bool { return soundBlock(n) || soundIf(n) }

func soundStatement(n api.Node) bool {
	switch n.Kind {
	case api.SBlock:
		return soundBlock(n)
	case api.SIf:
		return soundIf(n)
	case api.SVar:
		return named(n) && (row(n.Kids, soundType) || row(n.Kids, soundType, soundExpression))
	case api.SDefine:
		return soundAssigned(n, isName)
	case api.SAssign:
		return soundAssigned(n, isPlace)
	case api.SExpr:
		return bare(n) && row(n.Kids, isCall) && soundExpression(n.Kids[0])
	case api.SFor:
		return bare(n) && (row(n.Kids, soundBlock) || row(n.Kids, soundExpression, soundBlock))
	case api.SReturn:
		return bare(n) && every(n.Kids, soundExpression)
	case api.SBreak, api.SNext:
		return bare(n) && row(n.Kids)
	}
	return false
}

// soundAssigned: at least one of what is assigned to, and of what is assigned.
func soundAssigned(n api.Node, first test) bool {
	return numbered(n) && 0 < n.Num && n.Num < len(n.Kids) &&
		every(n.Kids[:n.Num], first) && every(n.Kids, soundExpression)
}

func soundExpression(n api.Node) bool {
	switch n.Kind {
	case api.EInt, api.EStr, api.EBool, api.ENil, api.EName:
		return soundLeaf(n)
	case api.ELit:
		return named(n) && every(n.Kids, soundExpression)
	case api.EList:
		return bare(n) && parted(n.Kids, 1, soundType, soundExpression)
	case api.EFunc:
		return bare(n) && row(n.Kids, soundSignature, soundBlock)
	case api.ESel:
		return named(n) && row(n.Kids, soundExpression)
	case api.EIndex:
		return bare(n) && row(n.Kids, soundExpression, soundExpression)
	case api.ECut:
		return numbered(n) && len(n.Kids) == cutKids(n.Num) && every(n.Kids, soundExpression)
	case api.ECall:
		return bare(n) && len(n.Kids) > 0 && every(n.Kids, soundExpression)
	case api.EUnary:
		return n.Num == 0 && isPrefix(n.Text) && row(n.Kids, soundExpression)
	case api.EBinary:
		return n.Num == 0 && rank(n.Text) > 0 && row(n.Kids, soundExpression, soundExpression)
	}
	return false
}

func soundLeaf(n api.Node) bool {
	if len(n.Kids) > 0 {
		return false
	}
	switch n.Kind {
	case api.EInt:
		return numbered(n) && n.Num >= 0
	case api.EStr:
		return n.Num == 0 && len(n.Text) <= api.MaxLen
	case api.EBool:
		return numbered(n) && (n.Num == 0 || n.Num == 1)
	case api.EName:
		return named(n)
	}
	return bare(n)
}

// cutKids: how many expressions a cut has; -1: there is no such cut.
func cutKids(num int) int {
	switch num {
	case 0:
		return 1
	case 1, 2:
		return 2
	case 3:
		return 3
	}
	return -1
}
