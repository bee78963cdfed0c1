package parse_test

import (
	"math/rand"
	"slices"
	"strconv"
	"strings"

	"halyard/api"
	"halyard/scan"
)

// Trees for the tests: made by hand, made at random, held against each other, and written as texts.

func tree(kind int, text string, num int, kids ...api.Node) api.Node {
	return api.Node{Kind: kind, Text: text, Num: num, Kids: kids}
}

func isZero(n api.Node) bool {
	return n.Kind == 0 && n.Text == "" && n.Num == 0 && len(n.Kids) == 0
}

func same(a, b api.Node) bool {
	return a.Kind == b.Kind && a.Text == b.Text && a.Num == b.Num && slices.EqualFunc(a.Kids, b.Kids, same)
}

func copied(n api.Node) api.Node {
	kids := make([]api.Node, len(n.Kids))
	for i, k := range n.Kids {
		kids[i] = copied(k)
	}
	n.Kids = kids
	return n
}

// writer writes any tree, sound or not; a sound one as a text of which it is the tree.
type writer struct {
	out   []string
	pick  *rand.Rand // for brackets that need not be; nil: none of them
	heads int        // how many heads are around, up to the next bracket
}

func rendered(n api.Node, pick *rand.Rand) string {
	w := &writer{pick: pick}
	w.node(n)
	return strings.Join(w.out, " ")
}

func (w *writer) put(words ...string) { w.out = append(w.out, words...) }

func (w *writer) each(list []api.Node, behind string) {
	for _, n := range list {
		w.node(n)
		if behind != "" {
			w.put(behind)
		}
	}
}

func (w *writer) commas(list []api.Node) {
	for i, n := range list {
		if i > 0 {
			w.put(",")
		}
		w.node(n)
	}
}

// inside writes what stands in brackets, where no head's rule holds.
func (w *writer) inside(open, shut string, write func()) {
	old := w.heads
	w.heads = 0
	w.put(open)
	write()
	w.put(shut)
	w.heads = old
}

// cutAt: a list's parts; of a wrong number the nearest that there is.
func cutAt(list []api.Node, at int) ([]api.Node, []api.Node) {
	at = max(0, min(at, len(list)))
	return list[:at], list[at:]
}

func (w *writer) function(n api.Node) {
	params, results := cutAt(n.Kids, n.Num)
	w.inside("(", ")", func() { w.commas(params) })
	if len(results) == 1 && (w.pick == nil || w.pick.Intn(2) == 0) {
		w.node(results[0])
	} else if len(results) > 0 {
		w.inside("(", ")", func() { w.commas(results) })
	}
}

func (w *writer) node(n api.Node) {
	switch {
	case n.Kind < api.SBlock:
		w.outer(n)
	case n.Kind < api.EInt:
		w.statement(n)
	default:
		w.expr(n, 0)
	}
}

func (w *writer) outer(n api.Node) {
	switch n.Kind {
	case api.NProg:
		w.each(n.Kids, "")
	case api.NStruct:
		w.put("type", n.Text, "struct")
		w.inside("{", "}", func() { w.each(n.Kids, ";") })
	case api.NIface:
		w.put("type", n.Text, "interface")
		w.inside("{", "}", func() { w.each(n.Kids, ";") })
	case api.NFunc:
		w.put("func", n.Text)
		w.each(n.Kids, "")
	case api.NMethod:
		w.put("func")
		first, rest := cutAt(n.Kids, 1)
		w.inside("(", ")", func() { w.each(first, "") })
		w.put(n.Text)
		w.each(rest, "")
	case api.NSig:
		w.function(n)
	case api.TyPtr:
		w.put("*")
		w.each(n.Kids, "")
	case api.TySlice:
		w.put("[", "]")
		w.each(n.Kids, "")
	case api.TyFunc:
		w.put("func")
		w.function(n)
	default: // NField, NParam, TyName
		w.put(n.Text)
		w.each(n.Kids, "")
	}
}

func (w *writer) statement(n api.Node) {
	switch n.Kind {
	case api.SBlock:
		w.inside("{", "}", func() { w.each(n.Kids, "") })
		return
	case api.SIf, api.SFor:
		w.put(map[int]string{api.SIf: "if", api.SFor: "for"}[n.Kind])
		for i, k := range n.Kids {
			if i == 2 {
				w.put("else")
			}
			w.heads++
			w.node(k)
			w.heads--
		}
		return
	case api.SVar:
		w.put("var", n.Text)
		typ, value := cutAt(n.Kids, 1)
		w.each(typ, "")
		if len(value) > 0 {
			w.put("=")
			w.commas(value)
		}
	case api.SDefine, api.SAssign:
		first, rest := cutAt(n.Kids, n.Num)
		w.commas(first)
		w.put(map[int]string{api.SDefine: ":=", api.SAssign: "="}[n.Kind])
		w.commas(rest)
	default:
		w.put(map[int][]string{api.SReturn: {"return"}, api.SBreak: {"break"}, api.SNext: {"continue"}}[n.Kind]...)
		w.commas(n.Kids)
	}
	w.put(";")
}

var binaryRanks = map[string]int{"||": 1, "&&": 2, "==": 3, "!=": 3, "<": 3, "<=": 3, ">": 3, ">=": 3, "+": 4, "-": 4, "*": 5, "/": 5, "%": 5}

const unaryRank, postRank = 6, 7

// expr writes an expression where one of at least that rank must stand.
func (w *writer) expr(n api.Node, least int) {
	rank := postRank
	if n.Kind == api.EBinary {
		rank = binaryRanks[n.Text]
	}
	if n.Kind == api.EUnary {
		rank = unaryRank
	}
	if rank < least || n.Kind == api.ELit && w.heads > 0 || w.pick != nil && w.pick.Intn(6) == 0 {
		w.inside("(", ")", func() { w.bare(n) })
		return
	}
	w.bare(n)
}

func (w *writer) bare(n api.Node) {
	first, rest := cutAt(n.Kids, 1)
	base := func(least int) {
		for _, k := range first {
			w.expr(k, least)
		}
	}
	switch n.Kind {
	case api.EInt:
		w.put(strconv.Itoa(n.Num))
	case api.EStr:
		w.put(strings.ReplaceAll(scan.Quote(n.Text), " ", `\x20`))
	case api.EBool:
		w.put([]string{"false", "true"}[n.Num&1])
	case api.ENil:
		w.put("nil")
	case api.EName:
		w.put(n.Text)
	case api.ELit:
		w.put(n.Text)
		w.inside("{", "}", func() { w.commas(n.Kids) })
	case api.EList:
		w.put("[", "]")
		w.each(first, "")
		w.inside("{", "}", func() { w.commas(rest) })
	case api.EFunc:
		w.put("func")
		w.each(n.Kids, "")
	case api.ESel:
		base(postRank)
		w.put(".", n.Text)
	case api.EIndex:
		base(postRank)
		w.inside("[", "]", func() { w.commas(rest) })
	case api.ECut:
		base(postRank)
		w.inside("[", "]", func() { w.cut(n.Num, rest) })
	case api.ECall:
		base(postRank)
		w.inside("(", ")", func() { w.commas(rest) })
	case api.EUnary:
		w.put(n.Text)
		base(unaryRank)
	case api.EBinary:
		base(binaryRanks[n.Text])
		w.put(n.Text)
		for _, k := range rest {
			w.expr(k, binaryRanks[n.Text]+1)
		}
	}
}

func (w *writer) cut(num int, edges []api.Node) {
	begin, end := cutAt(edges, num&1)
	w.commas(begin)
	w.put(":")
	w.commas(end)
}

// grower makes sound trees at random; what it has left is how many nodes it may still make, or little more.
type grower struct {
	*rand.Rand
	left int
}

func randomProgram(pick *rand.Rand, size int) api.Node {
	g := &grower{pick, size}
	return tree(api.NProg, "", 0, g.some(g.decl)...)
}

func (g *grower) name() string {
	return []string{"a", "b", "main", "T", "_", "x1", strings.Repeat("n", api.MaxName)}[g.Intn(7)]
}

// some: up to four, fewer if little is left.
func (g *grower) some(make func() api.Node) []api.Node {
	var list []api.Node
	for range g.Intn(5) {
		if g.left > 0 {
			list = append(list, make())
		}
	}
	return list
}

func (g *grower) many(make func() api.Node) []api.Node {
	return append([]api.Node{make()}, g.some(make)...)
}

func (g *grower) decl() api.Node {
	g.left--
	name := g.name()
	switch g.Intn(5) {
	case 0:
		return tree(api.NStruct, name, 0, g.some(func() api.Node { return tree(api.NField, g.name(), 0, g.typ()) })...)
	case 1:
		return tree(api.NIface, name, 0, g.some(func() api.Node { return tree(api.NField, g.name(), 0, g.sig()) })...)
	case 2:
		return tree(api.NMethod, name, 0, tree(api.NParam, g.name(), 0, tree(api.TyPtr, "", 0, tree(api.TyName, g.name(), 0))), g.sig(), g.block())
	}
	return tree(api.NFunc, name, 0, g.sig(), g.block())
}

func (g *grower) sig() api.Node {
	params := g.some(func() api.Node { return tree(api.NParam, g.name(), 0, g.typ()) })
	return tree(api.NSig, "", len(params), append(params, g.some(g.typ)...)...)
}

func (g *grower) typ() api.Node {
	g.left--
	if g.left > 0 {
		switch g.Intn(6) {
		case 0:
			return tree(api.TyPtr, "", 0, g.typ())
		case 1:
			return tree(api.TySlice, "", 0, g.typ())
		case 2:
			params := g.some(g.typ)
			return tree(api.TyFunc, "", len(params), append(params, g.some(g.typ)...)...)
		}
	}
	return tree(api.TyName, g.name(), 0)
}

func (g *grower) block() api.Node { return tree(api.SBlock, "", 0, g.some(g.stmt)...) }

func (g *grower) stmt() api.Node {
	g.left--
	switch g.Intn(10) {
	case 0:
		return g.block()
	case 1:
		return tree(api.SVar, g.name(), 0, g.typ())
	case 2:
		return tree(api.SVar, g.name(), 0, g.typ(), g.expr())
	case 3:
		first := g.many(func() api.Node { return tree(api.EName, g.name(), 0) })
		return tree(api.SDefine, "", len(first), append(first, g.many(g.expr)...)...)
	case 4:
		first := g.many(g.place)
		return tree(api.SAssign, "", len(first), append(first, g.many(g.expr)...)...)
	case 5:
		return g.ifs()
	case 6:
		if g.Intn(2) == 0 {
			return tree(api.SFor, "", 0, g.block())
		}
		return tree(api.SFor, "", 0, g.expr(), g.block())
	case 7:
		return tree(api.SReturn, "", 0, g.some(g.expr)...)
	case 8:
		return tree(api.SBreak+g.Intn(2), "", 0)
	}
	return tree(api.SExpr, "", 0, tree(api.ECall, "", 0, g.many(g.expr)...))
}

func (g *grower) ifs() api.Node {
	n := tree(api.SIf, "", 0, g.expr(), g.block())
	switch g.Intn(3) {
	case 0:
		n.Kids = append(n.Kids, g.block())
	case 1:
		n.Kids = append(n.Kids, g.ifs())
	}
	return n
}

func (g *grower) place() api.Node {
	switch g.Intn(4) {
	case 0:
		return tree(api.ESel, g.name(), 0, g.expr())
	case 1:
		return tree(api.EIndex, "", 0, g.expr(), g.expr())
	case 2:
		return tree(api.EUnary, "*", 0, g.expr())
	}
	return tree(api.EName, g.name(), 0)
}

var binaryOperators = strings.Fields("|| && == != < <= > >= + - * / %")

func (g *grower) expr() api.Node {
	g.left--
	if g.left <= 0 || g.Intn(3) == 0 {
		return g.leaf()
	}
	switch g.Intn(11) {
	case 0:
		return tree(api.ELit, g.name(), 0, g.some(g.expr)...)
	case 1:
		return tree(api.EList, "", 0, append([]api.Node{g.typ()}, g.some(g.expr)...)...)
	case 2:
		return tree(api.EFunc, "", 0, g.sig(), g.block())
	case 3:
		return tree(api.ESel, g.name(), 0, g.expr())
	case 4:
		return tree(api.EIndex, "", 0, g.expr(), g.expr())
	case 5:
		num := g.Intn(4)
		return tree(api.ECut, "", num, []api.Node{g.expr(), g.leaf(), g.expr()}[:[]int{1, 2, 2, 3}[num]]...)
	case 6:
		return tree(api.ECall, "", 0, g.many(g.expr)...)
	case 7, 8:
		return tree(api.EUnary, []string{"-", "!", "&", "*"}[g.Intn(4)], 0, g.expr())
	}
	return tree(api.EBinary, binaryOperators[g.Intn(len(binaryOperators))], 0, g.expr(), g.expr())
}

func (g *grower) leaf() api.Node {
	switch g.Intn(6) {
	case 0:
		return tree(api.EInt, "", []int{0, 1, 10, 9223372036854775807}[g.Intn(4)])
	case 1:
		return tree(api.EStr, []string{"", "a b", "\x00\"\\\n\xff", "{"}[g.Intn(4)], 0)
	case 2:
		return tree(api.EBool, "", g.Intn(2))
	case 3:
		return tree(api.ENil, "", 0)
	}
	return tree(api.EName, g.name(), 0)
}
