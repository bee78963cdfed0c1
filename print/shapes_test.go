package print_test

import (
	"math"
	"math/rand"
	"slices"
	"strings"

	"halyard/api"
)

// Trees for the tests: by a table of all that a node may be, at random, and each form in each place of each other.

func tree(kind int, text string, num int, kids ...api.Node) api.Node {
	return api.Node{Kind: kind, Text: text, Num: num, Kids: kids}
}

func same(a, b api.Node) bool {
	return a.Kind == b.Kind && a.Text == b.Text && a.Num == b.Num && slices.EqualFunc(a.Kids, b.Kids, same)
}

func copied(n api.Node) api.Node {
	kids := make([]api.Node, len(n.Kids))
	for i, k := range n.Kids {
		kids[i] = copied(k)
	}
	n.Kids = kids
	return n
}

// nodes: pointers to all nodes of a tree.
func nodes(n *api.Node) []*api.Node {
	list := []*api.Node{n}
	for i := range n.Kids {
		list = append(list, nodes(&n.Kids[i])...)
	}
	return list
}

// shape: what a node of some sort may be. Its kids are told by their sorts; with * there are any number, with + at least one; Num is how many stand ahead of |, where it stands.
type shape struct {
	kind  int
	texts []string
	nums  []int
	kids  string
}

var (
	nameTexts = []string{"a", "b", "main", "T", "_", "x1", strings.Repeat("n", api.MaxName)}
	noText    = []string{""}
	binaries  = strings.Fields("|| && == != < <= > >= + - * / %")
	strs      = []string{"", "a b", "\x00\"\\\n\t\xff", "{", "}", ";", "//", strings.Repeat("~", api.MaxLen)}
	ints      = []int{0, 1, 10, math.MaxInt}
)

// shapes: of each sort; the first one of each has no kids that must be, or such as end.
var shapes = map[string][]shape{
	"program":  {{api.NProg, noText, nil, "decl*"}},
	"decl":     {{api.NStruct, nameTexts, nil, "field*"}, {api.NIface, nameTexts, nil, "method*"}, {api.NFunc, nameTexts, nil, "sig block"}, {api.NMethod, nameTexts, nil, "receiver sig block"}},
	"field":    {{api.NField, nameTexts, nil, "type"}},
	"method":   {{api.NField, nameTexts, nil, "sig"}},
	"receiver": {{api.NParam, nameTexts, nil, "pointer"}},
	"pointer":  {{api.TyPtr, noText, nil, "typename"}},
	"typename": {{api.TyName, nameTexts, nil, ""}},
	"sig":      {{api.NSig, noText, nil, "param* | type*"}},
	"param":    {{api.NParam, nameTexts, nil, "type"}},
	"type":     {{api.TyName, nameTexts, nil, ""}, {api.TyPtr, noText, nil, "type"}, {api.TySlice, noText, nil, "type"}, {api.TyFunc, noText, nil, "type* | type*"}},
	"block":    {{api.SBlock, noText, nil, "stmt*"}},
	"else":     {{api.SBlock, noText, nil, "stmt*"}, {api.SIf, noText, nil, "expr block"}, {api.SIf, noText, nil, "expr block else"}},
	"stmt": {
		{api.SBreak, noText, nil, ""}, {api.SNext, noText, nil, ""}, {api.SBlock, noText, nil, "stmt*"},
		{api.SVar, nameTexts, nil, "type"}, {api.SVar, nameTexts, nil, "type expr"},
		{api.SDefine, noText, nil, "name+ | expr+"}, {api.SAssign, noText, nil, "place+ | expr+"}, {api.SExpr, noText, nil, "call"},
		{api.SIf, noText, nil, "expr block"}, {api.SIf, noText, nil, "expr block else"},
		{api.SFor, noText, nil, "block"}, {api.SFor, noText, nil, "expr block"}, {api.SReturn, noText, nil, "expr*"},
	},
	"name":  {{api.EName, nameTexts, nil, ""}},
	"place": {{api.EName, nameTexts, nil, ""}, {api.ESel, nameTexts, nil, "expr"}, {api.EIndex, noText, nil, "expr expr"}, {api.EUnary, []string{"*"}, nil, "expr"}},
	"call":  {{api.ECall, noText, nil, "expr+"}},
	"expr": {
		{api.EName, nameTexts, nil, ""}, {api.EInt, noText, ints, ""}, {api.EStr, strs, nil, ""}, {api.EBool, noText, []int{0, 1}, ""}, {api.ENil, noText, nil, ""},
		{api.ELit, nameTexts, nil, "expr*"}, {api.EList, noText, nil, "type expr*"}, {api.EFunc, noText, nil, "sig block"},
		{api.ESel, nameTexts, nil, "expr"}, {api.EIndex, noText, nil, "expr expr"}, {api.ECall, noText, nil, "expr+"},
		{api.ECut, noText, nil, "expr"}, {api.ECut, noText, []int{1}, "expr expr"}, {api.ECut, noText, []int{2}, "expr expr"}, {api.ECut, noText, []int{3}, "expr expr expr"},
		{api.EUnary, strings.Fields("- ! & *"), nil, "expr"}, {api.EBinary, binaries, nil, "expr expr"},
	},
}

// own: a shape's node with one of its texts and numbers, without kids.
func (s shape) own(i int) api.Node {
	n := tree(s.kind, s.texts[i%len(s.texts)], 0)
	if len(s.nums) > 0 {
		n.Num = s.nums[i%len(s.nums)]
	}
	return n
}

// variants: how many nodes of its own a shape has.
func (s shape) variants() int { return max(len(s.texts), len(s.nums)) }

// filled: a node with kids as its shape tells: the sorts without * and +, and of those how many is answered.
func (s shape) filled(n api.Node, many func(least int) int, kid func(sort string) api.Node) api.Node {
	for _, word := range strings.Fields(s.kids) {
		if word == "|" {
			n.Num = len(n.Kids)
			continue
		}
		sort, count := strings.TrimRight(word, "*+"), 1
		if strings.HasSuffix(word, "*") {
			count = many(0)
		}
		if strings.HasSuffix(word, "+") {
			count = many(1)
		}
		for range count {
			n.Kids = append(n.Kids, kid(sort))
		}
	}
	return n
}

// random: a sound tree of a sort with about so many nodes.
func random(pick *rand.Rand, sort string, left *int) api.Node {
	*left--
	list := shapes[sort]
	s := list[0]
	if *left > 0 {
		s = list[pick.Intn(len(list))]
	}
	many := func(least int) int { return least + pick.Intn(max(1, min(5, *left))) }
	return s.filled(s.own(pick.Intn(len(nameTexts)*len(binaries))), many, func(sort string) api.Node { return random(pick, sort, left) })
}

func randomTree(pick *rand.Rand, sort string, size int) api.Node { return random(pick, sort, &size) }

// smallest: the first shape's node, with as few kids as may be.
func smallest(sort string) api.Node {
	s := shapes[sort][0]
	return s.filled(s.own(0), func(least int) int { return least }, smallest)
}

// contexts: of each sort a program around a node of it.
func contexts() map[string]func(api.Node) api.Node {
	around := map[string]func(api.Node) api.Node{"program": func(n api.Node) api.Node { return n }}
	for queue := []string{"program"}; len(queue) > 0; queue = queue[1:] {
		outer := around[queue[0]]
		for _, s := range shapes[queue[0]] {
			for _, word := range strings.Fields(s.kids) {
				sort := strings.TrimRight(word, "*+")
				if sort == "|" || around[sort] != nil {
					continue
				}
				around[sort] = func(n api.Node) api.Node {
					return outer(withKid(s, sort, 1, func(i int) api.Node { return n }))
				}
				queue = append(queue, sort)
			}
		}
	}
	return around
}

// withKid: a shape's node with at least so many kids where there may be any number; the kids of one sort as told, the others as small as may be.
func withKid(s shape, sort string, count int, kid func(i int) api.Node) api.Node {
	i := 0
	return s.filled(s.own(0), func(int) int { return count }, func(have string) api.Node {
		if have != sort {
			return smallest(have)
		}
		i++
		return kid(i - 1)
	})
}

// pairs: programs with each form in each place of each form; where there may be any number, with none up to three.
func pairs(yield func(n api.Node)) {
	around := contexts()
	for sort, list := range shapes {
		for _, s := range list {
			for i := range s.variants() {
				yield(around[sort](s.filled(s.own(i), func(least int) int { return least }, smallest)))
			}
			for count := range 4 {
				eachKid(s, max(count, strings.Count(s.kids, "+")), func(n api.Node) { yield(around[sort](n)) })
			}
		}
	}
}

// eachKid: the shape's node with each form of each kid's sort at each place among those of that sort.
func eachKid(s shape, count int, yield func(n api.Node)) {
	for _, word := range strings.Fields(s.kids) {
		sort := strings.TrimRight(word, "*+")
		for _, inner := range shapes[sort] {
			form := inner.filled(inner.own(0), func(int) int { return 2 }, smallest)
			for place := range max(count, 3) {
				yield(withKid(s, sort, count, func(i int) api.Node {
					if i == place {
						return form
					}
					return smallest(sort)
				}))
			}
		}
	}
}
