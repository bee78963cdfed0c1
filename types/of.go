package types

import (
	"strings"

	"halyard/api"
	"halyard/parse"
)

// Of: the type that a type's node is.
func Of(n api.Node) (api.Type, api.Errno) {
	if !parse.Sound(around(n)) {
		return api.Type{}, api.ErrForm
	}
	return typeOf(n), api.OK
}

// around: the program type S struct { f n ; }, or, for a signature, func f n { }. No program has fewer nodes beside such a node, or fewer above it: what does not stand here stands in none.
func around(n api.Node) api.Node {
	if n.Kind == api.NSig {
		return node(api.NProg, "", node(api.NFunc, "f", n, node(api.SBlock, "")))
	}
	return node(api.NProg, "", node(api.NStruct, "S", node(api.NField, "f", n)))
}

func node(kind int, text string, kids ...api.Node) api.Node {
	return api.Node{Kind: kind, Text: text, Kids: kids}
}

func typeOf(n api.Node) api.Type {
	switch n.Kind {
	case api.TyName:
		return namedType(n.Text)
	case api.TyPtr:
		return api.Type{Kind: api.KPtr, Kids: each(n.Kids, typeOf)}
	case api.TySlice:
		return api.Type{Kind: api.KSlice, Kids: each(n.Kids, typeOf)}
	case api.NParam:
		return typeOf(n.Kids[0])
	}
	return api.Type{Kind: api.KFunc, Num: n.Num, Kids: each(n.Kids, typeOf)}
}

func namedType(name string) api.Type {
	kind := kindOf(name)
	if kind != api.KName {
		return api.Type{Kind: kind}
	}
	return api.Type{Kind: kind, Name: strings.Clone(name)}
}
