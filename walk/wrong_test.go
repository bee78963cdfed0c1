package walk_test

import (
	"bytes"
	"math"
	"slices"
	"strconv"
	"strings"
	"testing"

	"halyard/api"
	"halyard/cases"
	"halyard/check"
	"halyard/parse"
	"halyard/tally"
	"halyard/walk"
)

// What is rejected; limits of lengths; the rules R1 to R8.

func tree(kind int, text string, num int, kids ...api.Node) api.Node {
	return api.Node{Kind: kind, Text: text, Num: num, Kids: kids}
}

func mainOf(kids ...api.Node) api.Node {
	return tree(api.NProg, "", 0, tree(api.NFunc, "main", 0, tree(api.NSig, "", 0), tree(api.SBlock, "", 0, kids...)))
}

func rejected(t *testing.T, why string, n api.Node, fuel int) {
	t.Helper()
	if r := walk.Run(n, fuel); told(r) != told(api.Report{End: api.Rejected}) {
		t.Errorf("%s, fuel %d: %s", why, fuel, told(r))
	}
}

func TestRejected(t *testing.T) {
	for _, src := range []string{"", "func f() { }", "func main(a int) { }", "func main() { x := nil; }", "func main() { print(1); break; }", "func main() { print(1); print(nil); }", "func main() { f(); }", "func main() { x := 1; x := 2; }",
		"func f() int { } func main() { print(1); }", "type S struct { a S; } func main() { }", "func main() { } func main() { }", "type int struct { } func main() { }", "func main() { print(1); x = 2; }", "func main() { return 1; }", "func main() { panic(true); }"} {
		n := parsed(t, src)
		if check.Check(n) == api.OK {
			t.Fatalf("%q is well typed", src)
		}
		for _, fuel := range []int{math.MinInt, -1, 0, 1, 1000, math.MaxInt} {
			rejected(t, src, n, fuel)
		}
	}
	for _, src := range []string{"func main() { }", "func main() { print(1); }", "func main() { for { } }"} {
		for _, fuel := range []int{-1, -2, math.MinInt} {
			rejected(t, src, parsed(t, src), fuel)
		}
		if r := walk.Run(parsed(t, src), 0); told(r) != told(api.Report{End: api.NoFuel}) {
			t.Errorf("%s, fuel 0: %s", src, told(r))
		}
	}
}

func TestNoPrograms(t *testing.T) {
	some := parsed(t, "func main() { print(1); }")
	for why, n := range map[string]api.Node{
		"nothing":                 {},
		"least kind":              {Kind: math.MinInt, Num: math.MinInt},
		"greatest kind":           {Kind: math.MaxInt, Num: math.MaxInt},
		"a declaration":           some.Kids[0],
		"a block":                 some.Kids[0].Kids[1],
		"a program in a program":  tree(api.NProg, "", 0, some),
		"a program with a text":   tree(api.NProg, "x", 0, some.Kids...),
		"a program with a number": tree(api.NProg, "", 1, some.Kids...),
		"main without a block":    tree(api.NProg, "", 0, tree(api.NFunc, "main", 0, tree(api.NSig, "", 0))),
		"nothing in main":         mainOf(api.Node{}),
		"no statement":            mainOf(tree(api.EInt, "", 1)),
		"a number below 0":        mainOf(tree(api.SExpr, "", 0, tree(api.ECall, "", 0, tree(api.EName, "print", 0), tree(api.EInt, "", -1)))),
		"a long text":             mainOf(tree(api.SExpr, "", 0, tree(api.ECall, "", 0, tree(api.EName, "print", 0), tree(api.EStr, strings.Repeat("a", api.MaxLen+1), 0)))),
		"an operator of no kind":  mainOf(tree(api.SDefine, "", 1, tree(api.EName, "x", 0), tree(api.EBinary, "?", 0, tree(api.EInt, "", 1), tree(api.EInt, "", 1)))),
		"too many nodes":          mainOf(slices.Repeat([]api.Node{tree(api.SReturn, "", 0)}, api.MaxNodes-3)...),
	} {
		rejected(t, why, n, 100)
	}
	for _, kind := range []int{api.NProg, api.NFunc, api.NSig, api.TyPtr, api.SBlock, api.SIf, api.SFor, api.EFunc, api.ECall, api.EUnary, api.EBinary} {
		for _, count := range []int{1, 2, 3, 40} {
			n := tree(kind, "", 0, make([]api.Node, count)...)
			for i := range n.Kids {
				n.Kids[i] = n
			}
			rejected(t, "a ring of kind "+strconv.Itoa(kind), n, 100)
			rejected(t, "a ring within", mainOf(n), 100)
		}
	}
}

// Each node of a program with each field changed: it is rejected just if it is not well typed.
func TestChangedFields(t *testing.T) {
	n := parsed(t, cases.Head+"func main() { i := 0; for { if i > 3 { break; } else if !(i > 1) { x := func(a int) int { return a; }; l := []int{1, 2}; i = x(l[0]) + len(\"abc\"[1:]) + i; s := S{i, nil}; print(s.m(2)); } print(i); i = i + 1; } }")
	ends := map[int]int{}
	for _, at := range nodes(&n) {
		old := *at
		for _, change := range []func(){
			func() { at.Kind++ }, func() { at.Kind = 0 }, func() { at.Kind = api.EName }, func() { at.Text += "x" }, func() { at.Text = "" }, func() { at.Text = "-" }, func() { at.Text = "add" }, func() { at.Num++ }, func() { at.Num = -1 }, func() { at.Kids = nil },
			func() { at.Kids = append(slices.Clone(at.Kids), tree(api.EInt, "", 1)) },
		} {
			change()
			r := walk.Run(n, 500)
			if check.Check(n) != api.OK {
				rejected(t, "changed", n, 500)
			} else if want, _ := tally.Run(n, 500); told(r) != told(want) {
				t.Errorf("%v was %v: %s; want %s", *at, old, told(r), told(want))
			}
			ends[r.End]++
			*at = old
		}
	}
	if ends[api.Rejected] < 1000 || ends[api.Exit] < 30 {
		t.Errorf("%v: the test tells little", ends)
	}
}

// nodes: pointers to all nodes of a tree.
func nodes(n *api.Node) []*api.Node {
	list := []*api.Node{n}
	for i := range n.Kids {
		list = append(list, nodes(&n.Kids[i])...)
	}
	return list
}

func TestLongTexts(t *testing.T) {
	for lengths, want := range map[[2]int]string{
		{api.MaxLen, 0}: "", {0, api.MaxLen}: "", {512, 512}: "", {1023, 1}: "", {1, 1023}: "",
		{api.MaxLen, 1}: "large", {1, api.MaxLen}: "large", {513, 512}: "large", {api.MaxLen, api.MaxLen}: "large",
	} {
		a, b := strings.Repeat("a", lengths[0]), strings.Repeat("b", lengths[1])
		r := walk.Run(parsed(t, "func main() { s := \""+a+"\"; print(len(s + \""+b+"\")); }"), 100)
		if endOf(r) != want || want == "" && string(r.Out) != strconv.Itoa(api.MaxLen)+"\n" {
			t.Errorf("%v: %s", lengths, told(r))
		}
	}
	eachCase(t, cases.LongTexts())
}

func TestLongLists(t *testing.T) { eachCase(t, cases.LongLists()) }

// Types that are not written may have more than MaxDepth parts on a way.
func TestDeepPointers(t *testing.T) {
	var src strings.Builder
	src.WriteString("func main() { a0 := 1; ")
	for i := 1; i <= 150; i++ {
		src.WriteString("a" + strconv.Itoa(i) + " := &a" + strconv.Itoa(i-1) + "; ")
	}
	src.WriteString("x := " + strings.Repeat("*", 80) + "a150; y := " + strings.Repeat("*", 69) + "x; *y = 7; print(a0); }")
	if r := walk.Run(parsed(t, src.String()), 1000); string(r.Out) != "7\n" || r.End != api.Exit {
		t.Errorf("%s", told(r))
	}
}

// As many calls as there may be, with as many nodes within one another as there may be.
func TestDeepCalls(t *testing.T) {
	for _, src := range []string{
		"func f(n int) int { return " + strings.Repeat("- ", 90) + "f(n); }",
		"func f(n int) int { return " + strings.Repeat("(1 + ", 90) + "f(n)" + strings.Repeat(")", 90) + "; }",
		"func f(n int) int {" + strings.Repeat("{", 90) + "return f(n);" + strings.Repeat("}", 90) + "for { } }",
		"func f(n int) []int { return " + strings.Repeat("append(", 80) + "f(n)" + strings.Repeat(", 1)", 80) + "; }",
		"func g(n int) int { return n; } func f(n int) int { return " + strings.Repeat("g(", 90) + "f(n)" + strings.Repeat(")", 90) + "; }",
		"func f(n int) int { for { " + strings.Repeat("for true { if true { ", 22) + "return f(n);" + strings.Repeat("} }", 22) + "} }",
	} {
		n, at, e := parse.Parse(src + " func main() { f(1); }")
		if e != api.OK {
			t.Fatalf("%d at %d: %s", e, at, src)
		}
		if r := walk.Run(n, api.MaxFuel); r.End != api.NoStack {
			t.Errorf("%s: %s", src, told(r))
		}
	}
}

// R4 and R5: nothing that was handed in is changed or kept, and no two answers share anything.
func TestMemory(t *testing.T) {
	src := cases.Head + `func main() { s := "abc"; print(s); print(s[1:]); l := []S{S{1, nil}}; l = append(l, l[0]); l[1].m(4); x := func() int { return l[1].a; }; print(x()); print("abc"); }`
	n := spare(parsed(t, src))
	old := copied(n)
	first := walk.Run(n, 100)
	if !same(n, old) {
		t.Errorf("the tree was changed")
	}
	const want = "abc\nbc\n5\nabc\n"
	if string(first.Out) != want || cap(first.Out) < len(want) {
		t.Fatalf("%s", told(first))
	}
	again := walk.Run(n, 100)
	whole := first.Out[:cap(first.Out)]
	for i := range whole {
		whole[i] = '#'
	}
	if third := walk.Run(n, 100); string(again.Out) != want || string(third.Out) != want || !same(n, old) || bytes.Contains(third.Out[:cap(third.Out)], []byte("#")) {
		t.Errorf("%q, %q", again.Out, third.Out)
	}
}

// spare: with room behind the kids, which is filled.
func spare(n api.Node) api.Node {
	kids := make([]api.Node, len(n.Kids)+2)
	for i := range kids {
		kids[i] = tree(api.EName, "spare", 7)
	}
	for i, kid := range n.Kids {
		kids[i] = spare(kid)
	}
	n.Kids = kids[:len(n.Kids)]
	return n
}

func copied(n api.Node) api.Node {
	all := n.Kids[:cap(n.Kids)]
	kids := make([]api.Node, len(all))
	for i, kid := range all {
		kids[i] = copied(kid)
	}
	n.Kids = kids[:len(n.Kids)]
	return n
}

// same: the spare room too.
func same(a, b api.Node) bool {
	return a.Kind == b.Kind && a.Text == b.Text && a.Num == b.Num && len(a.Kids) == len(b.Kids) && slices.EqualFunc(a.Kids[:cap(a.Kids)], b.Kids[:cap(b.Kids)], same)
}

func TestManyAtOnce(t *testing.T) {
	n := parsed(t, cases.Head+"func main() { var l []S; i := 0; for i < 50 { l = append(l, S{i, nil}); print(l[i / 2].m(i)); i = i + 1; } }")
	want := told(walk.Run(n, 1000))
	answers := make(chan string)
	for range 8 {
		go func() { answers <- told(walk.Run(n, 1000)) }()
	}
	for range 8 {
		if got := <-answers; got != want {
			t.Errorf("%s; want %s", got, want)
		}
	}
}
