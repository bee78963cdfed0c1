package emit_test

import (
	"math"
	"reflect"
	"slices"
	"strconv"
	"strings"
	"sync"
	"testing"

	"halyard/api"
	"halyard/cases"
	"halyard/check"
	"halyard/emit"
	"halyard/sample"
	"halyard/walk"
)

// Trees that are none; the rules R1 to R8.

func tree(kind int, text string, num int, kids ...api.Node) api.Node {
	return api.Node{Kind: kind, Text: text, Num: num, Kids: kids}
}

func mainOf(kids ...api.Node) api.Node {
	return tree(api.NProg, "", 0, tree(api.NFunc, "main", 0, tree(api.NSig, "", 0), tree(api.SBlock, "", 0, kids...)))
}

func refused(t *testing.T, why string, n api.Node) {
	t.Helper()
	p, e := emit.Emit(n)
	if e == api.OK || e != check.Check(n) || !isNothing(p) {
		t.Errorf("%s: %d", why, e)
	}
}

func TestNoPrograms(t *testing.T) {
	some := parsed(t, "func main() { print(1); }")
	for why, n := range map[string]api.Node{
		"nothing":                 {},
		"a list without anything": {Kids: []api.Node{}},
		"no declaration":          {Kind: api.NProg},
		"an empty list":           {Kind: api.NProg, Kids: []api.Node{}},
		"least kind":              {Kind: math.MinInt, Num: math.MinInt},
		"greatest kind":           {Kind: math.MaxInt, Num: math.MaxInt},
		"a declaration":           some.Kids[0],
		"a block":                 some.Kids[0].Kids[1],
		"a program in a program":  tree(api.NProg, "", 0, some),
		"a program with a text":   tree(api.NProg, "x", 0, some.Kids...),
		"a program with a number": tree(api.NProg, "", 1, some.Kids...),
		"main without a block":    tree(api.NProg, "", 0, tree(api.NFunc, "main", 0, tree(api.NSig, "", 0))),
		"nothing in main":         mainOf(api.Node{}),
		"no statement":            mainOf(tree(api.EInt, "", 1)),
		"a number below 0":        mainOf(tree(api.SExpr, "", 0, tree(api.ECall, "", 0, tree(api.EName, "print", 0), tree(api.EInt, "", -1)))),
		"the least number":        mainOf(tree(api.SExpr, "", 0, tree(api.ECall, "", 0, tree(api.EName, "print", 0), tree(api.EInt, "", math.MinInt)))),
		"a long text":             mainOf(tree(api.SExpr, "", 0, tree(api.ECall, "", 0, tree(api.EName, "print", 0), tree(api.EStr, strings.Repeat("a", api.MaxLen+1), 0)))),
		"an operator of no kind":  mainOf(tree(api.SDefine, "", 1, tree(api.EName, "x", 0), tree(api.EBinary, "?", 0, tree(api.EInt, "", 1), tree(api.EInt, "", 1)))),
		"too many nodes":          mainOf(slices.Repeat([]api.Node{tree(api.SReturn, "", 0)}, api.MaxNodes-3)...),
		"far too many nodes":      mainOf(slices.Repeat([]api.Node{tree(api.SReturn, "", 0)}, 300000)...),
	} {
		refused(t, why, n)
	}
	for _, kind := range []int{api.NProg, api.NFunc, api.NSig, api.TyPtr, api.SBlock, api.SIf, api.SFor, api.EFunc, api.ECall, api.EUnary, api.EBinary} {
		for _, count := range []int{1, 2, 3, 40} {
			n := tree(kind, "", 0, make([]api.Node, count)...)
			for i := range n.Kids {
				n.Kids[i] = n
			}
			refused(t, "a ring of kind "+strconv.Itoa(kind), n)
			refused(t, "a ring within", mainOf(n))
		}
	}
}

// The greatest number and the longest text are fine, and as many nodes and levels as there may be.
func TestLimits(t *testing.T) {
	deep := tree(api.SBlock, "", 0)
	for range api.MaxDepth - 4 {
		deep = tree(api.SBlock, "", 0, deep)
	}
	shown := func(n api.Node) api.Node {
		return tree(api.SExpr, "", 0, tree(api.ECall, "", 0, tree(api.EName, "print", 0), n))
	}
	for what, n := range map[string]api.Node{
		"greatest number": mainOf(shown(tree(api.EInt, "", math.MaxInt))),
		"longest text":    mainOf(shown(tree(api.EStr, strings.Repeat("\xff", api.MaxLen), 0))),
		"levels":          mainOf(deep),
		"nodes":           mainOf(slices.Repeat([]api.Node{tree(api.SReturn, "", 0)}, api.MaxNodes-4)...),
	} {
		want := walk.Run(n, api.MaxFuel)
		if want.End != api.Exit {
			t.Fatalf("%s: %d", what, want.End)
		}
		if r := ran(t, emitted(t, n), most()); r.End != api.Exit || !follows(r, want) {
			t.Errorf("%s: %s", what, told(r))
		}
	}
}

// Each node of a program with each field changed.
func TestChangedFields(t *testing.T) {
	n := parsed(t, cases.Head+"func main() { i := 0; for { if i > 3 { break; } else if !(i > 1) { x := func(a int) int { return a; }; l := []int{1, 2}; i = x(l[0]) + len(\"abc\"[1:]) + i; s := S{i, nil}; print(s.m(2)); } print(i); i = i + 1; } }")
	seen := map[string]int{}
	for _, at := range nodes(&n) {
		old := *at
		for _, change := range []func(){
			func() { at.Kind++ }, func() { at.Kind = 0 }, func() { at.Kind = api.EName }, func() { at.Text += "x" }, func() { at.Text = "" }, func() { at.Text = "-" }, func() { at.Text = "add" }, func() { at.Num++ }, func() { at.Num = -1 }, func() { at.Num = math.MaxInt }, func() { at.Kids = nil },
			func() { at.Kids = at.Kids[:max(0, len(at.Kids)-1)] }, func() { at.Kids = append(slices.Clone(at.Kids), tree(api.EInt, "", 1)) },
		} {
			change()
			if check.Check(n) != api.OK {
				refused(t, "changed", n)
				seen["refused"]++
			} else {
				r := ran(t, emitted(t, n), api.Config{Heap: 2000, Stack: 2000, Fuel: 20000})
				if want := walk.Run(n, 500); !follows(r, want) {
					t.Errorf("%v was %v: %s; want %s", *at, old, told(r), told(want))
				}
				seen[endOf(r)]++
			}
			*at = old
		}
	}
	if seen["refused"] < 1000 || seen["exit"] < 30 {
		t.Errorf("%v: the test tells little", seen)
	}
}

const rich = `func main() { s := "abc"; print(s); print(s[1:]); l := []S{S{1, nil}}; l = append(l, l[0]); l[1].m(4); x := func() int { return l[1].a; }; print(x()); print("abc" + "d"); var i I = &l[0]; print(i.m(2)); }`

// spare: with room behind the kids, which is filled.
func spare(n api.Node) api.Node {
	kids := make([]api.Node, len(n.Kids)+2)
	for i := range kids {
		kids[i] = tree(api.EName, "spare", 7)
	}
	for i, kid := range n.Kids {
		kids[i] = spare(kid)
	}
	n.Kids = kids[:len(n.Kids)]
	return n
}

// same: the spare room too.
func same(a, b api.Node) bool {
	return a.Kind == b.Kind && a.Text == b.Text && a.Num == b.Num && len(a.Kids) == len(b.Kids) && slices.EqualFunc(a.Kids[:cap(a.Kids)], b.Kids[:cap(b.Kids)], same)
}

// R4: what is handed in is not changed, be it well typed or not.
func TestNothingIsChanged(t *testing.T) {
	for _, src := range []string{cases.Head + rich, "func main() { x := nil; }", ""} {
		n := spare(parsed(t, src))
		old := copied(n)
		emit.Emit(n)
		if !same(n, old) {
			t.Errorf("%s: the tree was changed", src)
		}
	}
}

// R4 and R5: no two lists of one answer share memory, nor do two answers, and nothing is kept of either.
func TestAnswersAreNew(t *testing.T) {
	n := parsed(t, cases.Head+rich)
	want := emitted(t, n)
	first, _ := emit.Emit(n)
	second, _ := emit.Emit(n)
	var lists [][]int
	for _, l := range first.Types {
		lists = append(lists, l.Fields)
	}
	for _, f := range first.Funcs {
		lists = append(lists, f.Locals, f.Results, f.Areas)
	}
	lists = append(lists, first.Tables...)
	if !sample.Apart(lists) {
		t.Errorf("lists share memory")
	}
	for i := range first.Funcs {
		for k, in := range sample.Spare(first.Funcs[i].Code) {
			if in.Op < 0 {
				t.Fatalf("code that is shared: %d of %d", k, i)
			}
			sample.Spare(first.Funcs[i].Code)[k].Op = -1
		}
		sample.Spare(first.Funcs)[i] = api.Func{}
	}
	clear(sample.Spare(first.Types))
	clear(sample.Spare(first.Tables))
	clear(sample.Spare(first.Strs))
	third, _ := emit.Emit(n)
	if !reflect.DeepEqual(second, want) || !reflect.DeepEqual(third, want) {
		t.Errorf("an answer was changed")
	}
	for _, at := range nodes(&n) {
		*at = tree(api.EName, "other", 5)
	}
	if !reflect.DeepEqual(second, want) {
		t.Errorf("an answer was changed by way of the tree")
	}
}

// A part of a tree may stand in it in several places.
func TestSharedTrees(t *testing.T) {
	literal := parsed(t, "func main() { x := func(n int) int { y := n; p := &y; return *p + n; }(2); }").Kids[0].Kids[1].Kids[0].Kids[1]
	sum := tree(api.EBinary, "+", 0, literal, literal)
	both := tree(api.EBinary, "*", 0, sum, sum)
	say := tree(api.SExpr, "", 0, tree(api.ECall, "", 0, tree(api.EName, "print", 0), both))
	block := tree(api.SBlock, "", 0, tree(api.SDefine, "", 1, tree(api.EName, "x", 0), both), say)
	n := mainOf(block, say, block, tree(api.SBlock, "", 0, block, block))
	if !reflect.DeepEqual(emitted(t, n), emitted(t, copied(n))) {
		t.Errorf("a copy has another program")
	}
	if r := ran(t, emitted(t, n), most()); string(r.Out) != strings.Repeat("64\n", 5) || r.End != api.Exit {
		t.Errorf("%s", told(r))
	}
}

func TestManyAtOnce(t *testing.T) {
	n := parsed(t, cases.Head+rich)
	want := emitted(t, n)
	var all sync.WaitGroup
	for range 8 {
		all.Go(func() {
			if p, e := emit.Emit(n); e != api.OK || !reflect.DeepEqual(p, want) {
				t.Errorf("%d: another program", e)
			}
		})
	}
	all.Wait()
}
