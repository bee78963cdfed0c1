package check_test

import (
	"math"
	"slices"
	"strconv"
	"strings"
	"testing"
	"unsafe"

	"halyard/api"
	"halyard/check"
	"halyard/parse"
)

// The rules R1 to R8, and the limits of trees.

func same(a, b api.Node) bool {
	return a.Kind == b.Kind && a.Text == b.Text && a.Num == b.Num && slices.EqualFunc(a.Kids, b.Kids, same)
}

func copied(n api.Node) api.Node {
	kids := make([]api.Node, len(n.Kids))
	for i, kid := range n.Kids {
		kids[i] = copied(kid)
	}
	n.Kids = kids
	return n
}

// nodes: pointers to all nodes of a tree.
func nodes(n *api.Node) []*api.Node {
	list := []*api.Node{n}
	for i := range n.Kids {
		list = append(list, nodes(&n.Kids[i])...)
	}
	return list
}

func mainOf(kids ...api.Node) api.Node {
	return tree(api.NProg, "", 0, tree(api.NFunc, "main", 0, tree(api.NSig, "", 0), block(kids...)))
}

// isNone: no program.
func isNone(t *testing.T, why string, n api.Node) {
	t.Helper()
	if e := check.Check(n); e != api.ErrForm {
		t.Errorf("Check, %s: %d", why, e)
	}
	if got, e := check.Table(n); e != api.ErrForm || len(got) > 0 {
		t.Errorf("Table, %s: %d, %v", why, e, got)
	}
	if check.Ends(n) {
		t.Errorf("Ends, %s: true", why)
	}
}

func TestNoProgram(t *testing.T) {
	some := mainOf(leave)
	if e := check.Check(some); e != api.OK {
		t.Fatalf("Check: %d", e)
	}
	for why, n := range map[string]api.Node{
		"nothing":                  {},
		"least kind":               {Kind: math.MinInt, Num: math.MinInt},
		"greatest kind":            {Kind: math.MaxInt, Num: math.MaxInt},
		"a declaration":            some.Kids[0],
		"a program in a program":   tree(api.NProg, "", 0, some),
		"a program with a text":    tree(api.NProg, "x", 0, some.Kids...),
		"a program with a number":  tree(api.NProg, "", 1, some.Kids...),
		"a function without a sig": tree(api.NProg, "", 0, tree(api.NFunc, "main", 0, block())),
		"nothing beside main":      tree(api.NProg, "", 0, some.Kids[0], api.Node{}),
		"no program, no struct":    tree(api.NProg, "", 0, some.Kids[0], tree(api.NMethod, "m", 0, tree(api.NParam, "x", 0, tree(api.TyName, "Z", 0)), tree(api.NSig, "", 0), block())),
		"no program, ill typed":    mainOf(tree(api.SBreak, "", 0), tree(api.SBreak, "", 1)),
		"no program, too large":    tree(api.NProg, "", 0, append(parsed(t, structs(api.MaxTypes+1)).Kids, tree(api.NFunc, "main", 0))...),
		"a wrong name":             mainOf(tree(api.SReturn, "", 0, tree(api.EName, "a b", 0))),
		"a statement below a type": mainOf(tree(api.SVar, "x", 0, leave)),
	} {
		isNone(t, why, n)
	}
}

func TestRings(t *testing.T) {
	for _, kind := range []int{api.NProg, api.NFunc, api.NSig, api.TyPtr, api.SBlock, api.SIf, api.SFor, api.EFunc, api.ECall, api.EUnary, api.EBinary} {
		for _, count := range []int{1, 2, 3, 40} {
			n := tree(kind, "", 0, make([]api.Node, count)...)
			for i := range n.Kids {
				n.Kids[i] = n
			}
			isNone(t, "a ring of kind "+strconv.Itoa(kind), n)
			isNone(t, "a ring within", mainOf(n))
			isNone(t, "a ring as a declaration", tree(api.NProg, "", 0, n))
			if check.Ends(block(n)) || check.Ends(block(n, leave)) {
				t.Errorf("Ends of a ring of kind %d", kind)
			}
		}
	}
}

// Each node of a program with each field changed: ErrForm just if the tree is not sound.
func TestChangedFields(t *testing.T) {
	n := parsed(t, head+"func main() {"+variables+"for { if b { break; } else if !b { x := func(a int) int { return a; }; n = x(l[0]) + len(s[1:]); } } }")
	for _, at := range nodes(&n) {
		old := *at
		for _, change := range []func(){
			func() { at.Kind++ }, func() { at.Kind = 0 }, func() { at.Kind = api.EName }, func() { at.Text += "x" }, func() { at.Text = "" }, func() { at.Num++ }, func() { at.Num = -1 }, func() { at.Kids = nil },
			func() { at.Kids = append(slices.Clone(at.Kids), tree(api.EInt, "", 1)) },
		} {
			change()
			_, e := check.Table(n)
			if got := check.Check(n); (got == api.ErrForm) == parse.Sound(n) || (e == api.ErrForm) != (got == api.ErrForm) {
				t.Fatalf("Check: %d, Table: %d; Sound: %v; %v was %v", got, e, parse.Sound(n), *at, old)
			}
			*at = old
		}
	}
}

func TestLimits(t *testing.T) {
	wide := func(nodes int) api.Node { return mainOf(slices.Repeat([]api.Node{leave}, nodes-4)...) }
	deep := func(nodes int) api.Node {
		n := leave
		for range nodes - 4 {
			n = block(n)
		}
		return mainOf(n)
	}
	holdLimit(t, api.MaxNodes, wide)
	holdLimit(t, api.MaxDepth, deep)
}

func holdLimit(t *testing.T, limit int, made func(nodes int) api.Node) {
	t.Helper()
	if e := check.Check(made(limit)); e != api.OK {
		t.Errorf("Check of %d: %d", limit, e)
	}
	isNone(t, "one beyond "+strconv.Itoa(limit), made(limit+1))
	isNone(t, "far beyond "+strconv.Itoa(limit), made(5*limit))
}

// Types that are not written may have more than MaxDepth parts on a way: such a type is not sound by chapter 4, so that nothing is Assignable to it or Comparable with it; but variables may have it.
func TestDeepTypes(t *testing.T) {
	var src strings.Builder
	src.WriteString("func main() { a0 := 1; ")
	for i := 1; i <= api.MaxDepth+1; i++ {
		src.WriteString("a" + strconv.Itoa(i) + " := &a" + strconv.Itoa(i-1) + "; ")
	}
	for last, want := range map[string]api.Errno{
		"": api.OK, "a99 = a99;": api.OK, "a99 = nil;": api.OK, "print(a99 == nil);": api.OK, "a99 = &a98;": api.OK, "x := a100; y := *x; y = a99;": api.OK, "x := *a101; a99 = *x;": api.OK, "x := **a101;": api.OK, "*a100 = a99;": api.OK, "x, y := a100, a101;": api.OK,
		"a100 = a100;": api.ErrType, "a100 = nil;": api.ErrType, "print(a100 == nil);": api.ErrType, "print(a100 == a100);": api.ErrType, "a100 = &a99;": api.ErrType, "*a101 = a100;": api.ErrType, "a99 = a98;": api.ErrType, "a101 = a101;": api.ErrType,
	} {
		checks(t, src.String()+last+"}", want)
	}
}

// Written types are as deep as a program may be.
func TestDeepWritten(t *testing.T) {
	stars := strings.Repeat("*", api.MaxDepth-5)
	checks(t, "func main() { var x "+stars+"int; var y "+stars+"int = x; x = nil; print(x == y); }", api.OK)
	checks(t, "func main() { var x "+stars+"Z; }", api.ErrType)
	checks(t, "func f(x "+stars[1:]+"Z) { } func main() { }", api.ErrType)
	checks(t, "func f(x "+stars+"int) "+stars+"int { return x; } func main() { x := f(nil); x = f(f(x)); }", api.OK)
}

// No part of an expression is gone through twice: as many times two would have no end.
func TestNested(t *testing.T) {
	const types = "type N struct { f func() *N; n *N; l []N; i int; } type M interface { m() M; } func (n *N) m() M { return nil; } func g(a int) int { return a; } "
	for _, part := range []string{".f()", ".n", ".l[0].n", ".f().n", ".l[0:][0].f()", ".n.l[1].f()"} {
		checks(t, types+"func main() { var n *N; n = n"+strings.Repeat(part, 90/(2*strings.Count(part, "[")+strings.Count(part, ".")+strings.Count(part, "(")))+"; }", api.OK)
	}
	checks(t, types+"func main() { var m M; m = m"+strings.Repeat(".m()", 45)+"; m = (&N{nil, nil, nil, 1})"+strings.Repeat(".m()", 44)+"; }", api.OK)
	checks(t, types+"func main() { x := "+strings.Repeat("g(", 90)+"1"+strings.Repeat(")", 90)+"; }", api.OK)
	checks(t, types+"func main() { x := 1; y := "+strings.Repeat("*&", 45)+"x; y = x; }", api.OK)
	checks(t, types+"func main() { x := "+strings.Repeat("func() int { return ", 23)+"1"+strings.Repeat("; }()", 23)+"; x = 1; }", api.OK)
	checks(t, types+"func main() { "+strings.Repeat("if true {", 45)+"x := 1;"+strings.Repeat("}", 45)+" }", api.OK)
	checks(t, types+"func main() { x := "+strings.Repeat("(", 900)+"1"+strings.Repeat("+ 1)", 90)+strings.Repeat(")", 810)+"; x = 1; }", api.OK)
}

// texts: all texts of an answer.
func texts(list []api.Decl) []*string {
	var out []*string
	var below func(t *api.Type)
	below = func(t *api.Type) {
		out = append(out, &t.Name)
		for i := range t.Kids {
			below(&t.Kids[i])
		}
	}
	for i := range list {
		out = append(out, &list[i].Name)
		for _, l := range [][]api.Field{list[i].Fields, list[i].Methods} {
			for j := range l {
				out = append(out, &l[j].Name)
				below(&l[j].Type)
			}
		}
	}
	return out
}

// R4: what is answered shares nothing with what was handed in, or with another answer.
func TestNewMemory(t *testing.T) {
	n := parsed(t, head+" func main() { }")
	first, _ := check.Table(n)
	second, _ := check.Table(n)
	shared := map[*byte]bool{}
	for _, at := range nodes(&n) {
		if at.Text != "" {
			shared[unsafe.StringData(at.Text)] = true
		}
	}
	for _, list := range [][]api.Decl{first, second} {
		for _, s := range texts(list) {
			if *s != "" && shared[unsafe.StringData(*s)] {
				t.Fatalf("Table: %q is shared", *s)
			}
		}
		for _, s := range texts(list) {
			if *s != "" {
				shared[unsafe.StringData(*s)] = true
			}
		}
	}
	old := copied(n)
	spoil(first)
	if third, _ := check.Table(n); !same(n, old) || !slices.EqualFunc(third, second, sameDecl) {
		t.Error("Table: an answer is shared")
	}
}

// spoil changes all lists of an answer, with their spare room.
func spoil(list []api.Decl) {
	for _, one := range list {
		for _, l := range [][]api.Field{one.Fields, one.Methods} {
			for i := range l {
				spoilType(l[i].Type)
			}
			clear(l[:cap(l)])
		}
	}
	clear(list[:cap(list)])
}

func spoilType(t api.Type) {
	for _, kid := range t.Kids {
		spoilType(kid)
	}
	clear(t.Kids[:cap(t.Kids)])
}

func sameType(a, b api.Type) bool {
	return a.Kind == b.Kind && a.Name == b.Name && a.Num == b.Num && slices.EqualFunc(a.Kids, b.Kids, sameType)
}

func sameMember(a, b api.Field) bool { return a.Name == b.Name && sameType(a.Type, b.Type) }

func sameDecl(a, b api.Decl) bool {
	return a.Name == b.Name && a.Iface == b.Iface && slices.EqualFunc(a.Fields, b.Fields, sameMember) && slices.EqualFunc(a.Methods, b.Methods, sameMember)
}

var spareNode = tree(api.EName, "spare", 7)

// roomy: a copy whose lists have room behind them, with nodes in it.
func roomy(n api.Node) api.Node {
	kids := make([]api.Node, 0, len(n.Kids)+2)
	for _, kid := range n.Kids {
		kids = append(kids, roomy(kid))
	}
	n.Kids = append(kids, spareNode, spareNode)[:len(n.Kids)]
	return n
}

// R4: what is handed in is not changed, spare room included; R5: nothing is kept.
func TestUnchanged(t *testing.T) {
	for _, src := range []string{head + "func main() {" + variables + "n = one(1); x := func() int { return n; }; }", "func main() { x = 1; }", "type S struct { a S; } func main() { }"} {
		n := roomy(parsed(t, src))
		old := copied(n)
		want := check.Check(n)
		check.Table(n)
		check.Ends(n.Kids[len(n.Kids)-1].Kids[1])
		if !same(n, old) || check.Check(n) != want {
			t.Error("a tree was changed, or something was kept")
		}
		for _, at := range nodes(&n) {
			for _, spare := range at.Kids[len(at.Kids):cap(at.Kids)] {
				if !same(spare, spareNode) {
					t.Fatal("spare room was changed")
				}
			}
		}
	}
}

// R4: nil and empty lists are the same.
func TestEmptyLists(t *testing.T) {
	n := parsed(t, "type S struct { } type I interface { } func main() { var x int; return; }")
	for _, at := range nodes(&n) {
		if len(at.Kids) == 0 {
			at.Kids = []api.Node{}
		}
	}
	if e := check.Check(n); e != api.OK {
		t.Errorf("Check: %d", e)
	}
	if got, e := check.Table(n); e != api.OK || len(got) != 2 {
		t.Errorf("Table: %v, %d", got, e)
	}
	if !check.Ends(n.Kids[2].Kids[1]) {
		t.Error("Ends: false")
	}
}
