package emit_test

import (
	"slices"
	"strconv"
	"strings"
	"testing"

	"halyard/api"
	"halyard/check"
	"halyard/emit"
	"halyard/tally"
	"halyard/walk"
)

// P20.1: when ErrLarge may be told.

// filled: a program of just so many nodes: what stands first, as many items as there is room for, what stands last, and empty blocks in main.
func filled(t *testing.T, count int, first string, item func(i int) string, last string) api.Node {
	t.Helper()
	items := ""
	with := func(items, blocks string) api.Node { return parsed(t, first+items+last+blocks+" }") }
	for i := range count {
		more := items + item(i)
		if tally.Nodes(with(more, "")) > count {
			break
		}
		items = more
	}
	return with(items, strings.Repeat("{ } ", count-tally.Nodes(with(items, ""))))
}

// extremes: programs with as much of one kind as there may be: what stands first, each item, what stands last.
type extreme struct {
	first string
	item  func(i int) string
	last  string
}

func extremes() []extreme {
	names := func(pattern string) func(i int) string {
		return func(i int) string {
			return strings.ReplaceAll(strings.ReplaceAll(pattern, "@", strconv.Itoa(i+1)), "#", strconv.Itoa(i))
		}
	}
	many := func(pattern, between string, count int) string {
		return strings.TrimSuffix(strings.Repeat(pattern+between, count), between)
	}
	wide := "type W struct { "
	for i := range 64 {
		wide += "f" + strconv.Itoa(i) + " int; "
	}
	wide += "} "
	return []extreme{
		{"func main() { a0 := 1; ", names("a@ := &a#; "), ""},
		{"func main() { a0 := []int{}; ", names("a@ := append([]*int{}, nil)[#:@]; "), ""},
		{"func main() { ", func(i int) string {
			return "var a" + strconv.Itoa(i) + " " + strings.Repeat("[]", 90-i) + strings.Repeat("*", i) + "int; "
		}, ""},
		{"func main() { ", func(i int) string {
			return "var a" + strconv.Itoa(i) + " " + strings.Repeat("*[]", 40-i) + strings.Repeat("*", i) + "bool; "
		}, ""},
		{"func main() { ", func(i int) string { return "x" + strconv.Itoa(i) + " := " + strings.Repeat("[]", 80-i) + "func(){}; " }, ""},
		{"", names("type S@ struct { } "), "func main() { var a S1; "},
		{"", names("type S@ struct { a []S@; } "), "func main() { x := S1{nil}; x.a = append(x.a, x); "},
		{"type I interface { m(); } ", names("type S@ struct { } func (s *S@) m() { } "), "func main() { var i I; i = &S1{}; i.m(); "},
		{"type S struct { } ", names("type I@ interface { m(); } "), "func (s *S) m() { } func main() { var i I1; i = &S{}; i.m(); "},
		{"type S struct { } func main() { var s S; ", names("x@ := func(s *S) []S { return nil; }; x@(&s); "), ""},
		{"func main() { ", names("func() { }(); "), ""},
		{"func main() { a0 := 1; ", names("a@ := func() { a# = a#; }; "), ""},
		{"func main() { ", names("print(\"text @\"); "), ""},
		{"func main() { s := \"\"; ", func(i int) string { return "s = \"" + strings.Repeat("x", 350+i%20) + strconv.Itoa(i) + "\"; " }, "print(s); "},
		{wide + "func main() { x := W{" + many("1", ", ", 64) + "}; var y W; ", names("x, y = y, x; "), "print(y.f63); "},
		{wide + "func f(w W) W { return w; } func main() { var x W; ", names("x = f(f(x)); "), ""},
		{wide + "func main() { var x W; l := []W{x}; ", names("l = append(l, l[#]); l[0] = l[@]; "), ""},
		{wide, names("func f@() (W, W, W, W, W) { panic := func() { }; panic(); } "), "func main() { a, b, c, d, e := f1(); "},
		{"func f0() { } ", names("func f@() { f#(); } "), "func main() { f1(); "},
		{"func main() { ", names("var a@ int; "), ""},
		{"func main() { x := 1; x" + strings.Repeat(", x", 200) + " = x" + strings.Repeat(", x", 200) + "; ", names("x = x; "), "print(x); "},
		{"func main() { x := []int{" + many("1", ", ", 440) + "}; ", names("print(len(x)); "), ""},
		{"func main() { x := 1; ", names("for x == 0 { if x < 1 { break; } else if x <= 1 { continue; } } "), ""},
		{"func main() { x := 1; b := true; ", names("b = b && x < 1 || x >= @ == !b; "), "print(b); "},
		{"func main() { x := " + strings.Repeat("(1 - ", 90) + "1" + strings.Repeat(")", 90) + "; ", names("x = -x * @ / x % @; "), "print(x); "},
		{"func f(n int) int { return n; } func main() { x := " + strings.Repeat("f(", 90) + "1" + strings.Repeat(")", 90) + "; ", names("x = f(x); "), "print(x); "},
		{"func main() { s := \"abc\"; ", names("s = s[:1] + s[1:] + s[0:0]; if s < \"b@\" { } "), "print(s); "},
		{"func main() { f := func() int { return 1; }; ", names("f(); "), "print(f()); "},
		{"type I interface { m(n int) I; } type S struct { } func (s *S) m(n int) I { return s; } func main() { var i I = &S{}; ", names("i = i.m(@).m(@); "), ""},
		{"func main() { " + strings.Repeat("f := func() { ", 20), names("{ f := 1; { print(f); } } "), strings.Repeat(" };", 20)},
	}
}

func TestSmallTreesAreNotLarge(t *testing.T) {
	for i, x := range extremes() {
		for _, count := range []int{500, 499} {
			n := filled(t, count, x.first, x.item, x.last)
			if e := check.Check(n); e != api.OK || tally.Nodes(n) != count {
				t.Fatalf("%d: %d, %d nodes: %s", i, e, tally.Nodes(n), shown(n))
			}
			tree := walk.Run(n, api.MaxFuel)
			if r := ran(t, emitted(t, n), api.Config{Heap: api.MaxWords, Stack: api.MaxWords, Fuel: api.MaxSteps}); !isBig(tree) || !isBig(r) || !follows(r, tree) {
				t.Errorf("%d: %s; want %s: %s", i, told(r), told(tree), shown(n))
			}
		}
	}
}

// again: a program, but the last statement of its last function stands there so many times.
func again(t *testing.T, src string, count int) api.Node {
	t.Helper()
	n := parsed(t, src)
	last := &n.Kids[len(n.Kids)-1]
	block := &last.Kids[len(last.Kids)-1]
	end := len(block.Kids) - 1
	block.Kids = append(block.Kids[:end:end], slices.Repeat(block.Kids[end:], count)...)
	return n
}

// A tree of more nodes may be too large, and nothing but ErrLarge is told then; it may be large and fine as well.
func TestLargeTrees(t *testing.T) {
	repeated := func(pattern string, count int) string {
		var src strings.Builder
		for i := range count {
			src.WriteString(strings.ReplaceAll(strings.ReplaceAll(pattern, "@", strconv.Itoa(i+1)), "#", strconv.Itoa(i)))
		}
		return src.String()
	}
	inMain := func(src string) api.Node { return parsed(t, "func main() { "+src+"}") }
	const calls = "func main() { var f func(); f(); }"
	for _, c := range []struct {
		what string
		n    api.Node
		want api.Errno
	}{
		{"texts", inMain(repeated("print(\"@\"); ", 1024)), api.OK},
		{"too many texts", inMain(repeated("print(\"@\"); ", 1025)), api.ErrLarge},
		{"texts in sight", inMain(repeated("print(\"@\"); ", 1024) + repeated("print(\"@\"); ", 1024)), api.OK},
		{"types", inMain("a0 := 1; " + repeated("a@ := &a#; ", 1000)), api.OK},
		{"too many types", inMain("a0 := 1; " + repeated("a@ := &a#; ", 1100)), api.ErrLarge},
		{"too many literals", inMain(repeated("func() { }(); ", 1100)), api.ErrLarge},
		{"variables", inMain(repeated("var a@ int; ", 4096)), api.OK},
		{"too many variables", inMain(repeated("var a@ int; ", 4097)), api.ErrLarge},
		{"variables one behind the other", again(t, "func main() { { var a int; } }", 6000), api.OK},
		{"code", again(t, calls, 5000), api.OK},
		{"too much code", again(t, calls, 5100), api.ErrLarge},
		{"more code than a number of 16 bits", again(t, calls, 6600), api.ErrLarge},
		{"too much code that nothing calls", again(t, "func main() { } func f() { var f func(); f(); }", 6000), api.OK},
		{"one text often", again(t, "func main() { print(\"a\"); }", 4500), api.OK},
		{"a list", inMain("x := []int{" + strings.TrimSuffix(strings.Repeat("1, ", 1024), ", ") + "}; print(len(x)); "), api.OK},
		{"a list that is too long", inMain("x := []int{" + strings.TrimSuffix(strings.Repeat("1, ", 9000), ", ") + "}; "), api.OK},
		{"functions", parsed(t, repeated("func f@() { } ", 1500)+"func main() { "+repeated("f@(); ", 1500)+"}"), api.OK},
	} {
		p, e := emit.Emit(c.n)
		if e != c.want || e != api.OK && !isNothing(p) {
			t.Errorf("%s: %d; want %d", c.what, e, c.want)
		}
		if e == api.OK {
			r := ran(t, emitted(t, c.n), api.Config{Heap: api.MaxWords, Stack: api.MaxWords, Fuel: api.MaxSteps})
			if tree := walk.Run(c.n, api.MaxFuel); !isBig(r) || !follows(r, tree) {
				t.Errorf("%s: %s; want %s", c.what, told(r), told(tree))
			}
		}
	}
}

// ofMethods: a program with so many methods of interfaces that are called, each of which takes a table.
func ofMethods(count int) string {
	var types, variables, calls strings.Builder
	for i := range count {
		face, method := strconv.Itoa(i/api.MaxFields), "m"+strconv.Itoa(i)
		if i%api.MaxFields == 0 {
			types.WriteString("type I" + face + " interface { ")
			variables.WriteString("var i" + face + " I" + face + "; ")
		}
		types.WriteString(method + "(); ")
		if i%api.MaxFields == api.MaxFields-1 || i == count-1 {
			types.WriteString("} ")
		}
		calls.WriteString("i" + face + "." + method + "(); ")
	}
	return types.String() + "func main() { " + variables.String() + calls.String() + "}"
}

// ofPointers: a program with a type for each of so many variables, and for what the first one names.
func ofPointers(count int) string {
	var src strings.Builder
	src.WriteString("func main() { a0 := 1; ")
	for i := range count {
		src.WriteString("a" + strconv.Itoa(i+1) + " := &a" + strconv.Itoa(i) + "; ")
	}
	return src.String() + "}"
}

// The last program that is not too large has just as much as there may be.
func TestLastThatIsNotLarge(t *testing.T) {
	for what, c := range map[string]struct {
		src   func(count int) string
		count func(p api.Prog) int
	}{
		"types":  {ofPointers, func(p api.Prog) int { return len(p.Types) }},
		"tables": {ofMethods, func(p api.Prog) int { return len(p.Tables) }},
	} {
		n := parsed(t, c.src(api.MaxTypes))
		if p := emitted(t, n); c.count(p) != api.MaxTypes {
			t.Errorf("%s: %d", what, c.count(p))
		}
		if p, e := emit.Emit(parsed(t, c.src(api.MaxTypes+1))); e != api.ErrLarge || !isNothing(p) {
			t.Errorf("too many %s: %d", what, e)
		}
	}
}

// What Check says comes first: of a table that is too large, and of trees that are not well typed beside being large.
func TestErrorsOfLargeTrees(t *testing.T) {
	fields := func(count int) string {
		src := "type S struct { "
		for i := range count {
			src += "a" + strconv.Itoa(i) + " int; "
		}
		return src + "} "
	}
	types := func(count int) string {
		src := ""
		for i := range count {
			src += "type S" + strconv.Itoa(i) + " struct { } "
		}
		return src
	}
	var texts strings.Builder
	for i := range 1100 {
		texts.WriteString("print(\"" + strconv.Itoa(i) + "\"); ")
	}
	for _, c := range []struct {
		src  string
		want api.Errno
	}{
		{fields(64) + "func main() { }", api.OK}, {fields(65) + "func main() { }", api.ErrLarge}, {fields(65) + "func main() { x := nil; }", api.ErrLarge}, {fields(64) + "func main() { x := nil; }", api.ErrType},
		{types(1020) + "func main() { }", api.OK}, {types(1025) + "func main() { }", api.ErrLarge},
		{"func main() { " + texts.String() + "x := nil; }", api.ErrType}, {"func main() { " + texts.String() + "}", api.ErrLarge},
	} {
		n := parsed(t, c.src)
		if p, e := emit.Emit(n); e != c.want || e != api.OK && !isNothing(p) {
			t.Errorf("%.60s: %d; want %d", c.src, e, c.want)
		}
	}
}
