package parse

import (
	"halyard/api"
	"halyard/scan"
)

// Sound: is it a program's tree?
func Sound(n api.Node) bool { return small(n) && soundProgram(n) }

// small: is the tree within the limits? It gives up at the first node beyond them, for a list may hold itself.
func small(n api.Node) bool {
	left := api.MaxNodes
	return counted(n, api.MaxDepth, &left)
}

func counted(n api.Node, deep int, left *int) bool {
	if deep == 0 || *left == 0 {
		return false
	}
	*left--
	for _, kid := range n.Kids {
		if !counted(kid, deep-1, left) {
			return false
		}
	}
	return true
}

// test tells whether a node may stand somewhere, with all that is below it.
type test func(n api.Node) bool

func every(list []api.Node, is test) bool {
	for _, n := range list {
		if !is(n) {
			return false
		}
	}
	return true
}

// row: just these nodes, one behind the other. How many there are is looked at first, so that forms of other lengths may be tried at no cost.
func row(list []api.Node, tests ...test) bool {
	if len(list) != len(tests) {
		return false
	}
	for i, is := range tests {
		if !is(list[i]) {
			return false
		}
	}
	return true
}

// parted: so many nodes of the first sort, the rest of the second.
func parted(list []api.Node, count int, first, rest test) bool {
	return 0 <= count && count <= len(list) && every(list[:count], first) && every(list[count:], rest)
}

// bare, named, numbered: which of a node's own fields may be other than zero.

func bare(n api.Node) bool     { return n.Text == "" && n.Num == 0 }
func named(n api.Node) bool    { return n.Num == 0 && scan.Name(n.Text) }
func numbered(n api.Node) bool { return n.Text == "" }

func soundProgram(n api.Node) bool {
	return n.Kind == api.NProg && bare(n) && every(n.Kids, soundDeclaration)
}

func soundDeclaration(n api.Node) bool {
	switch n.Kind {
	case api.NStruct:
		return named(n) && every(n.Kids, soundField)
	case api.NIface:
		return named(n) && every(n.Kids, soundMethod)
	case api.NFunc:
		return named(n) && row(n.Kids, soundSignature, soundBlock)
	case api.NMethod:
		return named(n) && row(n.Kids, soundReceiver, soundSignature, soundBlock)
	}
	return false
}

func soundField(n api.Node) bool {
	return n.Kind == api.NField && named(n) && row(n.Kids, soundType)
}

func soundMethod(n api.Node) bool {
	return n.Kind == api.NField && named(n) && row(n.Kids, soundSignature)
}

func soundReceiver(n api.Node) bool {
	return soundParameter(n) && n.Kids[0].Kind == api.TyPtr && n.Kids[0].Kids[0].Kind == api.TyName
}

func soundParameter(n api.Node) bool {
	return n.Kind == api.NParam && named(n) && row(n.Kids, soundType)
}

func soundSignature(n api.Node) bool {
	return n.Kind == api.NSig && numbered(n) && parted(n.Kids, n.Num, soundParameter, soundType)
}

func soundType(n api.Node) bool {
	switch n.Kind {
	case api.TyName:
		return named(n) && row(n.Kids)
	case api.TyPtr, api.TySlice:
		return bare(n) && row(n.Kids, soundType)
	case api.TyFunc:
		return numbered(n) && parted(n.Kids, n.Num, soundType, soundType)
	}
	return false
}
