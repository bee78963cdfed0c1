package parse_test

import (
	"math"
	"math/rand"
	"slices"
	"strings"
	"testing"

	"halyard/api"
	"halyard/parse"
)

// P2.2: a tree is sound just if it is what Parse answers of the text that is written of it.
func holdSound(t *testing.T, n api.Node) bool {
	t.Helper()
	src := rendered(n, nil)
	back, _, e := parse.Parse(src)
	want := e == api.OK && same(back, n)
	if got := parse.Sound(n); got != want {
		t.Fatalf("Sound(%v) = %t; written %q", n, got, src)
	}
	return want
}

// nodes: pointers to all nodes of a tree.
func nodes(n *api.Node) []*api.Node {
	list := []*api.Node{n}
	for i := range n.Kids {
		list = append(list, nodes(&n.Kids[i])...)
	}
	return list
}

var allKinds = []int{
	0, api.NProg, api.NStruct, api.NIface, api.NFunc, api.NMethod, api.NField, api.NSig, api.NParam, 9, api.TyName, api.TyPtr, api.TySlice, api.TyFunc, 14,
	api.SBlock, api.SVar, api.SDefine, api.SAssign, api.SExpr, api.SIf, api.SFor, api.SReturn, api.SBreak, api.SNext, 30,
	api.EInt, api.EStr, api.EBool, api.ENil, api.EName, api.ELit, api.EList, api.EFunc, api.ESel, api.EIndex, api.ECut, api.ECall, api.EUnary, api.EBinary, 54, -1, math.MaxInt, math.MinInt,
}

var someTexts = []string{"", "a", "_", "for", "nil", "1", "a b", "a;", "é", "-", "!", "&", "*", "+", "/", "&&", "||", "==", "=", ":=", "!=", ".", strings.Repeat("n", api.MaxName), strings.Repeat("n", api.MaxName+1), strings.Repeat("s", api.MaxLen), strings.Repeat("s", api.MaxLen+1)}

var someNums = []int{0, 1, 2, 3, 4, 5, -1, math.MaxInt, math.MinInt}

// every node of the texts' trees, with each other kind, text and number, and with its list changed.
func TestSoundEachChange(t *testing.T) {
	for _, src := range goodTexts {
		n := copied(parsed(t, src))
		holdSound(t, n)
		for _, at := range nodes(&n) {
			old := *at
			for _, kind := range allKinds {
				at.Kind = kind
				holdSound(t, n)
			}
			*at = old
			for _, text := range someTexts {
				at.Text = text
				holdSound(t, n)
			}
			*at = old
			for _, num := range someNums {
				at.Num = num
				holdSound(t, n)
			}
			*at = old
			for i := range old.Kids {
				at.Kids = slices.Delete(slices.Clone(old.Kids), i, i+1)
				holdSound(t, n)
				at.Kids = slices.Insert(slices.Clone(old.Kids), i, old.Kids[i])
				holdSound(t, n)
			}
			for _, kid := range []api.Node{{}, name("a"), typ("a"), block(), call(name("a")), sig(0), field("a", typ("a")), param("a", typ("a"))} {
				at.Kids = append(slices.Clone(old.Kids), kid)
				holdSound(t, n)
			}
			*at = old
		}
	}
}

// Random trees, some with changes.
func TestSoundRandom(t *testing.T) {
	pick := rand.New(rand.NewSource(5))
	sound := 0
	for i := range 12000 {
		n := randomProgram(pick, 5+i%40)
		for range pick.Intn(3) {
			spoilOne(&n, pick)
		}
		if holdSound(t, n) {
			sound++
		}
	}
	if sound < 3000 || sound > 11000 {
		t.Errorf("%d of 12000 trees are sound: the test tells little", sound)
	}
}

func spoilOne(n *api.Node, pick *rand.Rand) {
	list := nodes(n)
	at, other := list[pick.Intn(len(list))], copied(*list[pick.Intn(len(list))])
	switch pick.Intn(6) {
	case 0:
		at.Kind = allKinds[pick.Intn(len(allKinds))]
	case 1:
		at.Text = someTexts[pick.Intn(len(someTexts))]
	case 2:
		at.Num = someNums[pick.Intn(len(someNums))]
	case 3:
		at.Kids = append(slices.Clone(at.Kids), other)
	case 4:
		if k := len(at.Kids); k > 0 {
			at.Kids = at.Kids[:k-1]
		}
	case 5:
		*at = other
	}
}

func sound(t *testing.T, want bool, n api.Node) {
	t.Helper()
	if parse.Sound(n) != want {
		t.Errorf("Sound(%.200s) is not %t", rendered(n, nil), want)
	}
}

// returns: a program that returns these.
func returns(list ...api.Node) api.Node { return main0(tree(api.SReturn, "", 0, list...)) }

func TestSoundForms(t *testing.T) {
	a := name("a")
	sound(t, true, prog())
	sound(t, true, api.Node{Kind: api.NProg, Kids: []api.Node{}})
	sound(t, false, api.Node{})
	sound(t, false, block())
	sound(t, false, a)
	sound(t, false, prog(a))
	sound(t, false, prog(prog()))
	sound(t, true, returns(num(math.MaxInt)))
	sound(t, false, returns(num(-1)))
	sound(t, false, returns(num(math.MinInt)))
	sound(t, true, returns(tree(api.EStr, strings.Repeat("\x00", api.MaxLen), 0)))
	sound(t, false, returns(tree(api.EStr, strings.Repeat("\x00", api.MaxLen+1), 0)))
	sound(t, true, returns(name(strings.Repeat("_", api.MaxName))))
	sound(t, false, returns(name(strings.Repeat("_", api.MaxName+1))))
	for _, s := range []string{"", "for", "nil", "true", "1", "a b", " a", "a\n", "é", "a//", "+"} {
		sound(t, false, returns(name(s)))
		sound(t, false, returns(tree(api.ESel, s, 0, a)))
		sound(t, false, returns(tree(api.ELit, s, 0)))
		sound(t, false, prog(tree(api.NStruct, s, 0)))
		sound(t, false, prog(tree(api.NIface, s, 0)))
		sound(t, false, prog(tree(api.NFunc, s, 0, sig(0), block())))
		sound(t, false, prog(tree(api.NStruct, "T", 0, field(s, typ("T")))))
		sound(t, false, prog(tree(api.NStruct, "T", 0, field("a", typ(s)))))
		sound(t, false, prog(tree(api.NIface, "T", 0, field(s, sig(0)))))
		sound(t, false, prog(tree(api.NFunc, "f", 0, sig(1, param(s, typ("T"))), block())))
		sound(t, false, main0(tree(api.SVar, s, 0, typ("T"))))
		sound(t, false, prog(tree(api.NMethod, "m", 0, param(s, tree(api.TyPtr, "", 0, typ("T"))), sig(0), block())))
		sound(t, false, prog(tree(api.NMethod, s, 0, param("p", tree(api.TyPtr, "", 0, typ("T"))), sig(0), block())))
	}
	sound(t, true, prog(tree(api.NMethod, "m", 0, param("p", tree(api.TyPtr, "", 0, typ("T"))), sig(0), block())))
	for _, receiver := range []api.Node{typ("T"), tree(api.TySlice, "", 0, typ("T")), tree(api.TyFunc, "", 0), tree(api.TyPtr, "", 0, tree(api.TyPtr, "", 0, typ("T"))), tree(api.TyPtr, "", 0), {}} {
		sound(t, false, prog(tree(api.NMethod, "m", 0, param("p", receiver), sig(0), block())))
	}
	sound(t, false, prog(tree(api.NMethod, "m", 0, param("p", typ("T")))))
	sound(t, false, prog(tree(api.NMethod, "m", 0, tree(api.NParam, "p", 0), sig(0), block())))
	sound(t, false, prog(tree(api.NIface, "I", 0, field("m", typ("T")))))
	sound(t, false, prog(tree(api.NStruct, "T", 0, field("m", sig(0)))))
}

func TestSoundStatements(t *testing.T) {
	a, b, one := name("a"), name("b"), num(1)
	for kind, yes := range map[int]bool{api.SDefine: true, api.SAssign: true, api.SReturn: false} {
		sound(t, yes, main0(tree(kind, "", 1, a, one)))
		sound(t, yes, main0(tree(kind, "", 2, a, b, one)))
		sound(t, yes, main0(tree(kind, "", 1, a, one, one)))
		sound(t, false, main0(tree(kind, "", 2, a, one)))
		sound(t, false, main0(tree(kind, "", 2, a, b)))
		sound(t, false, main0(tree(kind, "", 3, a, b)))
		sound(t, false, main0(tree(kind, "", -1, a, b)))
		sound(t, false, main0(tree(kind, "", math.MaxInt, a, b)))
		sound(t, false, main0(tree(kind, "", 1, one, a)))
		sound(t, false, main0(tree(kind, "a", 1, a, one)))
	}
	sound(t, false, main0(tree(api.SDefine, "", 0, a, one)))
	sound(t, false, main0(tree(api.SDefine, "", 0)))
	sound(t, false, main0(tree(api.SAssign, "", 0, a, one)))
	places := []api.Node{a, tree(api.ESel, "b", 0, one), tree(api.EIndex, "", 0, one, one), unary("*", one)}
	for _, place := range places {
		sound(t, true, main0(tree(api.SAssign, "", 1, place, one)))
		sound(t, place.Kind == api.EName, main0(tree(api.SDefine, "", 1, place, one)))
	}
	for _, other := range []api.Node{one, unary("-", a), unary("&", a), unary("!", a), call(a), binary(a, "*", b), tree(api.ECut, "", 0, a), tree(api.ELit, "T", 0), tree(api.EList, "", 0, typ("T")), tree(api.ENil, "", 0), typ("a"), unary("*", typ("a"))} {
		sound(t, false, main0(tree(api.SAssign, "", 1, other, one)))
		sound(t, false, main0(tree(api.SDefine, "", 1, other, one)))
		sound(t, other.Kind == api.ECall, main0(tree(api.SExpr, "", 0, other)))
	}
	sound(t, false, main0(tree(api.SExpr, "", 0)))
	sound(t, false, main0(tree(api.SExpr, "", 0, call(a), call(a))))
	sound(t, false, main0(tree(api.SExpr, "", 0, call())))
	sound(t, false, main0(tree(api.SExpr, "", 0, call(typ("a")))))
	sound(t, false, main0(tree(api.SIf, "", 0, a, block(), tree(api.SFor, "", 0, block()))))
	sound(t, false, main0(tree(api.SIf, "", 0, a, block(), block(), block())))
	sound(t, false, main0(tree(api.SIf, "", 0, block(), block())))
	sound(t, false, main0(tree(api.SIf, "", 0, a)))
	sound(t, false, main0(tree(api.SFor, "", 0, a)))
	sound(t, false, main0(tree(api.SFor, "", 0)))
	sound(t, false, main0(tree(api.SFor, "", 0, a, a, block())))
	sound(t, false, main0(a))
}

// P2.2: within the limits of trees, but for those of texts and tokens.

func TestSoundDepth(t *testing.T) {
	n := num(1)
	for range api.MaxDepth - 5 {
		n = unary("-", n)
	}
	sound(t, true, returns(n))
	sound(t, false, returns(unary("-", n)))
	b := block()
	for range api.MaxDepth - 3 {
		b = block(b)
	}
	sound(t, true, prog(tree(api.NFunc, "f", 0, sig(0), b)))
	sound(t, false, prog(tree(api.NFunc, "f", 0, sig(0), block(b))))
}

func TestSoundNodes(t *testing.T) {
	list := make([]api.Node, api.MaxNodes-5, api.MaxNodes)
	for i := range list {
		list[i] = num(math.MaxInt)
	}
	sound(t, true, returns(list...)) // more bytes and tokens than a text may have
	sound(t, false, returns(append(list, num(1))...))
	blocks := make([]api.Node, api.MaxNodes-4)
	for i := range blocks {
		blocks[i] = block()
	}
	sound(t, true, main0(blocks...))
	sound(t, false, main0(append(blocks, block())...))
	sound(t, false, main0(make([]api.Node, 1<<20)...))
}

// R1, R8: a tree without an end, and one whose parts are the same many times over.
func TestSoundEnds(t *testing.T) {
	ring := []api.Node{block()}
	ring[0].Kids = ring
	n := main0(ring...)
	for _, kind := range allKinds {
		ring[0].Kind = kind
		if parse.Sound(n) || parse.Sound(ring[0]) {
			t.Errorf("a ring of kind %d is sound", kind)
		}
	}
	b := block()
	for range 90 {
		b = block(b, b)
	}
	if parse.Sound(main0(b)) {
		t.Errorf("a tree of 2^90 nodes is sound")
	}
	deep := num(1)
	for range 1 << 16 {
		deep = unary("-", deep)
	}
	if parse.Sound(returns(deep)) || parse.Sound(deep) {
		t.Errorf("a tree of depth 2^16 is sound")
	}
}

// R4: what is handed in is not changed, spare room included.
func TestSoundLeavesItsTree(t *testing.T) {
	n := copied(parsed(t, strings.Join(goodTexts, "\n")))
	for _, at := range nodes(&n) {
		at.Kids = slices.Grow(at.Kids, 3)
		spare := at.Kids[len(at.Kids):cap(at.Kids)]
		for i := range spare {
			spare[i] = junk
		}
	}
	want := copied(n)
	if !parse.Sound(n) || !same(n, want) {
		t.Errorf("not sound, or changed")
	}
	for _, at := range nodes(&n) {
		for _, k := range at.Kids[len(at.Kids):cap(at.Kids)] {
			if !same(k, junk) {
				t.Fatalf("spare room is changed: %v", k)
			}
		}
	}
}
