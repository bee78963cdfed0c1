package check_test

import (
	"testing"

	"halyard/api"
	"halyard/check"
)

// P5.3

func blockOf(t testing.TB, src string) api.Node {
	t.Helper()
	return parsed(t, "func f() {"+src+"}").Kids[0].Kids[1]
}

var endings = []string{
	"return;", "return 1;", "return a, b, c;", "panic(1);", "panic();", "panic(1, 2);", "(panic)(1);", "panic := f; panic(1);", "x = 1; return;", "{ return; }", "{ { x = 1; panic(1); } }", "print(1); { return; }",
	"if a { return; } else { return; }", "if a { panic(1); } else { return; }", "if a { return; } else if b { return; } else { return; }", "if a { } else { } return;", "if a { for { } } else { { return; } }",
	"if a { x = 1; return; } else if b { return; } else if c { panic(1); } else { for { } }", "if a { if b { return; } else { return; } } else { return; }",
	"for { }", "for { continue; }", "for { return; }", "for { x = 1; }", "for { for { break; } }", "for { for a { break; } }", "for { if a { for { break; } } else { } }", "for { { for { if a { break; } } } }",
	"for { x := func() { break; }; }", "for { func() { for { } break; }(); }", "for { if func() bool { break; }() { } }", "for { x = []int{func() int { break; }()}; }", "for { return func() { break; }; }",
	"for a { break; } for { }", "break; return;", "return; return;", "break; for { }",
}

var goingOn = []string{
	"", "{ }", "x = 1;", "x := 1;", "var x int;", "print(1);", "return; x = 1;", "panic(1); x = 1;", "return; { }", "break;", "continue;", "{ return; } x = 1;", "{ return; } { }", "x.panic(1);", "panic.x(1);", "panic()();", "panic[0]();", "(*panic)(1);", "func() { panic(1); }();", "func() { return; }();", "x := panic(1);", "x = panic(1);", "Panic(1);", "f(panic(1));",
	"if a { return; }", "if a { return; } else { }", "if a { } else { return; }", "if a { return; } else if b { return; }", "if a { return; } else if b { } else { return; }", "if a { } else if b { return; } else { return; }", "if a { return; } else if b { return; } else { }", "if a { } else { }", "if a { return; } else { return; } x = 1;",
	"for a { }", "for true { }", "for a { return; }", "for { break; }", "for { return; break; }", "for { if a { break; } }", "for { if a { } else { break; } }", "for { if a { } else if b { break; } }", "for { if a { } else if b { } else { break; } }", "for { { { break; } } }", "for { { } break; return; }", "for { for { } break; }", "for { x := func() { break; }; break; }",
	"for { for a { } if b { { break; } } }", "for { } x = 1;", "for func() bool { return true; }() { }", "x := func() int { return 1; };", "{ for { break; } }", "if a { return; } else { for { break; } }", "{ } { }",
}

func TestEnds(t *testing.T) {
	for _, src := range endings {
		if !check.Ends(blockOf(t, src)) {
			t.Errorf("Ends: false of { %s }", src)
		}
	}
	for _, src := range goingOn {
		if check.Ends(blockOf(t, src)) {
			t.Errorf("Ends: true of { %s }", src)
		}
	}
}

// Blocks of blocks that end or do not, at each place.
func TestEndsWithin(t *testing.T) {
	for want, list := range map[bool][]string{true: endings, false: goingOn} {
		for _, src := range list {
			for _, around := range [][3]string{{"{ ", " }", "is"}, {"x = 1; { ", " }", "is"}, {"if a { return; } else { ", " }", "is"}, {"if a { ", " } else { return; }", "is"}, {"if a { return; } else if b { ", " } else { for { } }", "is"},
				{"if a { ", " }", "no"}, {"for a { ", " }", "no"}, {"{ ", " } { }", "no"}, {"f(func() { ", " });", "no"}, {"x := func() { ", " };", "no"}} {
				if got := check.Ends(blockOf(t, around[0]+src+around[1])); got != (want && around[2] == "is") {
					t.Errorf("Ends: %v of { %s%s%s }", got, around[0], src, around[1])
				}
			}
		}
	}
}

func tree(kind int, text string, num int, kids ...api.Node) api.Node {
	return api.Node{Kind: kind, Text: text, Num: num, Kids: kids}
}

func block(kids ...api.Node) api.Node { return tree(api.SBlock, "", 0, kids...) }

var leave = tree(api.SReturn, "", 0)

func TestEndsWrong(t *testing.T) {
	if !check.Ends(block(leave)) {
		t.Fatal("Ends: false of { return; }")
	}
	for why, n := range map[string]api.Node{
		"nothing":                      {},
		"a return":                     leave,
		"a for":                        tree(api.SFor, "", 0, block()),
		"an if":                        tree(api.SIf, "", 0, tree(api.EName, "a", 0), block(leave), block(leave)),
		"a program":                    tree(api.NProg, "", 0, tree(api.NFunc, "f", 0, tree(api.NSig, "", 0), block(leave))),
		"a function":                   tree(api.NFunc, "f", 0, tree(api.NSig, "", 0), block(leave)),
		"a literal":                    tree(api.EFunc, "", 0, tree(api.NSig, "", 0), block(leave)),
		"a block with a text":          tree(api.SBlock, "x", 0, leave),
		"a block with a number":        tree(api.SBlock, "", 1, leave),
		"a return with a text":         block(tree(api.SReturn, "x", 0)),
		"a return with a number":       block(tree(api.SReturn, "", 1)),
		"a return of a type":           block(tree(api.SReturn, "", 0, tree(api.TyName, "int", 0))),
		"a return of a statement":      block(tree(api.SReturn, "", 0, leave)),
		"nothing ahead of a return":    block(api.Node{}, leave),
		"an expression as a statement": block(tree(api.EInt, "", 1), leave),
		"a name as a statement":        block(tree(api.SExpr, "", 0, tree(api.EName, "panic", 0))),
		"a call of nothing":            block(tree(api.SExpr, "", 0, tree(api.ECall, "", 0))),
		"an expression of nothing":     block(tree(api.SExpr, "", 0)),
		"a for of nothing":             block(tree(api.SFor, "", 0)),
		"a for without a block":        block(tree(api.SFor, "", 0, tree(api.EName, "a", 0))),
		"an if of nothing":             block(tree(api.SIf, "", 0)),
		"an if of four":                block(tree(api.SIf, "", 0, tree(api.EName, "a", 0), block(leave), block(leave), block(leave))),
		"an if with another statement": block(tree(api.SIf, "", 0, tree(api.EName, "a", 0), block(leave), leave)),
		"a name that is none":          block(tree(api.SReturn, "", 0, tree(api.EName, "1", 0))),
		"a number below 0":             block(tree(api.SReturn, "", 0, tree(api.EInt, "", -1))),
		"a declaration":                block(tree(api.NFunc, "f", 0, tree(api.NSig, "", 0), block(leave)), leave),
	} {
		if check.Ends(n) {
			t.Errorf("Ends: true of %s", why)
		}
	}
}

// The whole and a function stand above a block, with a signature beside it.
func TestEndsLimits(t *testing.T) {
	deep := func(nodes int) api.Node {
		n := leave
		for range nodes - 1 {
			n = block(n)
		}
		return n
	}
	wide := func(nodes int) api.Node {
		n := block()
		for range nodes - 1 {
			n.Kids = append(n.Kids, leave)
		}
		return n
	}
	if !check.Ends(deep(api.MaxDepth-2)) || check.Ends(deep(api.MaxDepth-1)) || check.Ends(deep(api.MaxDepth)) {
		t.Error("Ends: depth")
	}
	if !check.Ends(wide(api.MaxNodes-3)) || check.Ends(wide(api.MaxNodes-2)) || check.Ends(wide(10*api.MaxNodes)) {
		t.Error("Ends: nodes")
	}
}
