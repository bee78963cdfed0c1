package parse_test

import (
	"strings"
	"testing"

	"halyard/api"
	"halyard/parse"
)

// P2.1: faults. In each text the fault's place is the ^, which is left out of it.

func faultAt(t *testing.T, marked string) {
	t.Helper()
	place := strings.Index(marked, "^")
	if place < 0 {
		t.Fatalf("no place in %s", marked)
	}
	fault(t, marked[:place]+marked[place+1:], place, api.ErrText)
}

func TestParseFaultsOfDeclarations(t *testing.T) {
	for _, s := range []string{
		"^x", "^1", "^;", "^}", "^\"type\"", "^\"func\"", "^var a int;", "^return;", "func f() { } ^;", "func f() { } ^}",
		"type^", "type ^struct", "type ^1", "type T^", "type T ^int", "type T ^{", "type T ^func", "type T struct^", "type T struct ^;",
		"type T struct {^", "type T struct { ^;", "type T struct { ^1", "type T struct { a^", "type T struct { a ^;", "type T struct { a ^(", "type T struct { a ^= int; }", "type T struct { a int^", "type T struct { a int ^}", "type T struct { a int^, b int; }",
		"type T struct { a^, b int; }", "type T struct { } ^;", "type T struct { m^() int; }",
		"type I interface^", "type I interface ^(", "type I interface { ^;", "type I interface { m ^;", "type I interface { m ^int; }", "type I interface { m() ^}", "type I interface { m() int^", "type I interface { m() ^{ } }", "type I interface { m() int ^int; }",
		"func^", "func ^{", "func ^func", "func (^)", "func f^", "func f ^{", "func f ^;", "func f(^", "func f(^,", "func f(int^", "func f() { } func^",
		"func (^", "func (p^", "func (p ^T) m() { }", "func (p ^[]T) m() { }", "func (p *^*T) m() { }", "func (p *^", "func (p *^[", "func (p *T^", "func (p *T^, q *T) m() { }", "func (p *T) ^{", "func (p *T) ^(", "func (p *T) m^", "func (p *T) m ^{ }", "func (^*T) m() { }", "func (p *T^.m) m() { }",
	} {
		faultAt(t, s)
	}
}

func TestParseFaultsOfSignatures(t *testing.T) {
	for _, s := range []string{
		"func f(a^) { }", "func f(a^, b int) { }", "func f(a int^", "func f(a int,^) { }", "func f(a int ^b int) { }", "func f(a int^; b int) { }", "func f(^*T) { }", "func f(^1) { }", "func f(a ^1) { }", "func f(a []^1) { }", "func f(a [^1]int) { }", "func f(a *^) { }", "func f(a int^{ }",
		"func f()^", "func f() ^;", "func f() (^) { }", "func f() (int,^) { }", "func f() (int ^int) { }", "func f() (a ^int) { }", "func f() (int^", "func f() int^", "func f() int ^int { }", "func f() int^, int { }", "func f() (int) ^(int) { }", "func f() ^1 { }", "func f() ^= { }", "func f() *^{ }", "func f() [^{ }", "func f() func ^{ }", "func f() func(a ^int) { }", "func f() func(int,^) { }", "func f() func()^", "func f() ^struct { }", "func f() ^interface { } { }",
	} {
		faultAt(t, s)
	}
}

// faultIn: the fault stands in a function's block.
func faultIn(t *testing.T, marked string) {
	t.Helper()
	faultAt(t, "func f() { "+marked)
}

func TestParseFaultsOfStatements(t *testing.T) {
	for _, s := range []string{
		"^", "^;", "^)", "^else { } }", "^type T struct { } }", "^struct", "^:= 1; }", "^= 1; }", "^, a = 1; }", "} ^}", "{ ^", "{ }^",
		"var^", "var ^1 int; }", "var ^= 1; }", "var a^; }", "var a ^= 1; }", "var a^, b int; }", "var a int^", "var a int ^} }", "var a int ^:= 1; }", "var a int ^1; }", "var a int =^; }", "var a int = 1^, 2; }", "var a int = 1 ^} }", "var a int = 1^",
		"return^", "return ^}", "return 1 ^}", "return 1,^; }", "return ^, 1; }", "return ^return; }", "return 1 ^2; }", "return a ^= 1; }", "return a ^:= 1; }", "return^) }",
		"break^", "break ^}", "break ^a; }", "continue^", "continue ^}", "continue ^1; }", "break; ^;",
		"for^", "for ^; }", "for ^} }", "for a^", "for a^; }", "for a ^= 1 { } }", "for a ^:= 1 { } }", "for a^, b { } }", "for { }^", "for { } ^; }", "for ^var a int; { } }", "for a { } ^else { } }",
		"if^", "if ^{ } }", "if ^; }", "if a^", "if a^; }", "if a ^b { } }", "if a^, b { } }", "if a ^= b { } }", "if a ^:= b { } }", "if a { }^", "if a { } else^", "if a { } else ^; }", "if a { } else ^a(); }", "if a { } else ^for { } }", "if a { } else { } ^else { } }", "if a { } else if ^{ } }", "if a { } else if b^", "if a ^else { } }",
	} {
		faultIn(t, s)
	}
}

// What may not stand ahead of := and = and ; is told at that token, what stands there may be ever so long.
func TestParseFaultsOfAssignments(t *testing.T) {
	notNames := []string{"1", `"a"`, "true", "nil", "a.b", "a[1]", "a[:]", "a()", "*a", "-a", "a + b", "a == b", "T{}", "T{1, 2}", "[]T{}", "func() { }", "(1)", "(a.b)", "a, 1", "1, a", "a, b.c, d", "a, b, *c"}
	for _, s := range notNames {
		faultIn(t, s+" ^:= 1; }")
		faultIn(t, s+"^:=")
	}
	notPlaces := []string{"1", `"a"`, "true", "false", "nil", "a[:]", "a[1:]", "a[1:2]", "a()", "-a", "!a", "&a", "&*a", "-*a", "a + b", "*a + *b", "a || b", "T{}", "[]T{1}", "func() { }", "(1)", "(a())", "a, 1", "1, a", "a, b(), c", "a.b, a[:]", "a.b().c()"}
	for _, s := range notPlaces {
		faultIn(t, s+" ^= 1; }")
		faultIn(t, s+"^=")
	}
	notCalls := []string{"1", `"a"`, "true", "nil", "a", "(a)", "a.b", "a[1]", "a[:]", "*a", "*a()", "-a()", "!a()", "&a()", "a() + b()", "a() == b()", "a().b", "a()[1]", "T{}", "T{a()}", "[]T{a()}", "func() { }", "func() { a(); }", "a, b", "a(), b()", "a(), b", "(a() + 1)"}
	for _, s := range notCalls {
		faultIn(t, s+" ^; }")
		faultIn(t, s+"^;")
		faultIn(t, s+"^")
		faultIn(t, s+" ^} }")
		faultIn(t, s+" ^) }")
	}
	for _, s := range []string{
		"a :=^; }", "a =^; }", "a := 1^", "a = 1^", "a := 1 ^} }", "a = 1 ^} }", "a := 1,^; }", "a, ^:= 1; }", "a,^= 1; }", "a,^; }", "a := b ^:= c; }", "a = b ^= c; }", "a := b ^= c; }", "a() ^a(); }", "a() ^}", "a()^", "a ^b; }", "a ^a(); }", "a ^return; }", "a { } ^}",
	} {
		faultIn(t, s)
	}
}

func TestParseFaultsOfExpressions(t *testing.T) {
	for _, s := range []string{
		"^)", "^]", "^}", "^,", "^.", "^/ 1", "^+ 1", "^% 1", "^&& a", "^|| a", "^== a", "^< a", "^else", "^var", "^type", "^if a { }", "^struct { }", "^interface { }", "^break", "^return",
		"a.^;", "a.^1", "a.^(b)", "a.^func", "a.b ^c", "a[^", "a[^]", "a[1^", "a[1^; ]", "a[1^, 2]", "a[1 ^2]", "a[1:^", "a[1:2^", "a[1:2^:3]", "a[:^:]", "a[1^:= 2]", "a[^= 2]", "a[1:^, 2]",
		"a(^", "a(^,", "a(1^", "a(1,^)", "a(1 ^2)", "a(1^; 2)", "a(^:", "a(1 ^:= 2)", "a(1^]", "a(b ^= 1)", "a([^1])",
		"T{^", "T{^,", "T{1^", "T{1,^}", "T{1 ^2}", "T{1^; }", "T{a^: 1}", "T{^;", "T{1^)",
		"(^", "(^)", "(a^", "(a^, b)", "(a^; )", "(a^]", "(a ^= 1)", "(a^}", "(^return)",
		"[^", "[^1]", "[]^", "[]^;", "[]^{ }", "[]^1", "[][^1]", "[]T^", "[]T^;", "[]T^(1)", "[]T^.a", "[]T{^", "[]T{1,^}", "[]T{1^", "[]*T^[1]", "[]func^{", "[]func(a ^b) { }",
		"func^", "func ^f() { }", "func(^1", "func()^", "func()^;", "func() { ^", "func() { }^", "func() { } ^{ }", "func() { return^", "func() (^) { }", "func(a^) { }",
		"-^;", "!^)", "&^,", "*^", "- ^/ a", "-^+a", "! ^= a", "a +^;", "a +^", "a -^)", "a + ^/ b", "a ^! b", "a *^]", "a || ^|| b", "a && ^&& b", "a == ^== b", "a < ^= b", "a ^1", `a ^"b"`, "1 ^2", "1 ^a", "true ^a", "nil ^nil", "a ^true", "a ^func() { }", "a ^var",
	} {
		faultIn(t, "return "+s)
		faultIn(t, "if a { } return a * ( b [ "+s)
	}
}

func TestParseEndsTooEarly(t *testing.T) {
	for _, src := range goodTexts {
		for i := range len(src) {
			n, at, e := parse.Parse(src[:i])
			if e == api.OK && (at != 0 || !parse.Sound(n)) || e != api.OK && (e != api.ErrText || !isZero(n)) {
				t.Errorf("Parse(%q): %d at %d", src[:i], e, at)
			}
		}
	}
	fault(t, "func f() { a(); ", 16, api.ErrText)
	fault(t, "func f() { a(); // }\n", 21, api.ErrText)
	fault(t, "func f() {\n", 11, api.ErrText)
	fault(t, "type\t", 5, api.ErrText)
}

// P2.1: which error is looked at first.

func TestParseScanFirst(t *testing.T) {
	fault(t, "#", 0, api.ErrText)
	fault(t, "x #", 2, api.ErrText)
	fault(t, ") 01 #", 2, api.ErrText)
	fault(t, "func f() { return 1 2; } \"", 25, api.ErrText)
	fault(t, "func f() { } "+strings.Repeat("n", api.MaxName+1), 13, api.ErrText)
	fault(t, strings.Repeat(" ", api.MaxText+1), 0, api.ErrLong)
	fault(t, "x"+strings.Repeat(" ", api.MaxText), 0, api.ErrLong)
	fault(t, "#"+strings.Repeat(" ", api.MaxText), 0, api.ErrLong)
	fault(t, strings.Repeat(")", api.MaxTokens), 0, api.ErrText)
	fault(t, strings.Repeat(")", api.MaxTokens+1), api.MaxTokens, api.ErrLarge)
	fault(t, strings.Repeat(")", api.MaxTokens)+" #", api.MaxTokens+1, api.ErrLarge)
	fault(t, strings.Repeat(")", api.MaxTokens-1)+" #", api.MaxTokens, api.ErrText)
}

func TestParseTextBeforeLarge(t *testing.T) {
	deep := "func f() { return " + strings.Repeat("-", 500) + "1; }"
	fault(t, deep, 0, api.ErrLarge)
	fault(t, deep+"x", len(deep), api.ErrText)
	fault(t, deep[:len(deep)-1], len(deep)-1, api.ErrText)
	fault(t, "x"+deep, 0, api.ErrText)
}

// P2.1: the limits of trees.

// nested: the depth of what stands in the middle of such a text is how often it is nested, and some.
func nested(left, middle, right string, times int) string {
	return strings.Repeat(left, times) + middle + strings.Repeat(right, times)
}

func TestParseDepth(t *testing.T) {
	for _, c := range []struct {
		so, left, middle, right, rest string
		around, each                  int // nodes on the longest way, beside those nested; of each of them
	}{
		{"func f(){return ", "-", "1", "", ";}", 5, 1},
		{"func f(){return ", "a(", "1", ")", ";}", 5, 1},
		{"func f(){return ", "", "1", "()", ";}", 5, 1},
		{"func f(){return ", "", "a", ".b", ";}", 5, 1},
		{"func f(){return ", "", "a", "[1]", ";}", 5, 1},
		{"func f(){return ", "", "a", "[:]", ";}", 5, 1},
		{"func f(){return ", "a[1:", "1", "]", ";}", 5, 1},
		{"func f(){return ", "T{", "1", "}", ";}", 5, 1},
		{"func f(){return ", "[]T{", "1", "}", ";}", 5, 1},
		{"func f(){return ", "", "1", "+1", ";}", 5, 1},
		{"func f(){return ", "1+(", "1", ")", ";}", 5, 1},
		{"func f(){return ", "func(){return ", "1", ";}", ";}", 5, 3},
		{"func f(){return ", "(", "-1", ")", ";}", 6, 0},
		{"func f(){", "{", "a=1;", "}", "}", 5, 1},
		{"func f(){", "if a{", "a=1;", "}", "}", 5, 2},
		{"func f(){", "for{", "a=1;", "}", "}", 5, 2},
		{"func f(){", "if a{}else ", "{a=1;}", "", "}", 6, 1},
		{"func f(){var a ", "*", "int", "", ";}", 5, 1},
		{"func f(){var a ", "[]", "int", "", ";}", 5, 1},
		{"func f(a ", "func(", "int", ")", "){}", 5, 1},
		{"func f() ", "func() ", "int", "", "{}", 4, 1},
		{"func f() ", "func()(", "int", ")", "{}", 4, 1},
		{"type T struct{a ", "*", "int", "", ";}", 4, 1},
		{"type T interface{a(a ", "*", "int", "", ");}", 6, 1},
		{"func (p *T) m(){return ", "-", "1", "", ";}", 5, 1},
	} {
		text := func(times int) string { return c.so + nested(c.left, c.middle, c.right, times) + c.rest }
		if c.each == 0 {
			parsed(t, text(9000))
			continue
		}
		most := (api.MaxDepth - c.around) / c.each
		parsed(t, text(most))
		fault(t, text(most+1), 0, api.ErrLarge)
		fault(t, text(1500), 0, api.ErrLarge)
		fault(t, text(1500)+"x", len(text(1500)), api.ErrText)
	}
}

// No text of MaxTokens tokens has more than MaxNodes nodes: each node but the whole has a token of its own, and there are brackets beside.
func TestParseManyTokens(t *testing.T) {
	row := func(terms int) string { return "func f(){return 1" + strings.Repeat(",1", terms) + ";}" }
	most := (api.MaxTokens - 9) / 2
	n := parsed(t, row(most))
	if got := len(n.Kids[0].Kids[1].Kids[0].Kids); got != most+1 {
		t.Errorf("%d expressions; want %d", got, most+1)
	}
	text := row(most)
	parsed(t, text[:len(text)-2]+"; }")
	fault(t, row(most+1), len(row(most+1))-1, api.ErrLarge)
	blocks := "func f(){" + strings.Repeat("{}", (api.MaxTokens-6)/2) + "}"
	parsed(t, blocks)
	fault(t, blocks+"x", len(blocks), api.ErrLarge)
}

// R1, R8: texts that nest as deep as tokens go.
func TestParseDeepTexts(t *testing.T) {
	for _, piece := range []string{"(", "-", "a(", "a[", "[]T{", "T{", "func(){", "func(){return ", "{", "if a{", "for{", "if func(){", "a[:"} {
		for _, so := range []string{"func f(){", "func f(){return ", "func f(){if "} {
			times := (api.MaxTokens - 10) / 8
			if len(piece) == 1 {
				times = api.MaxTokens - 10
			}
			src := so + strings.Repeat(piece, times)
			if n, at, e := parse.Parse(src); e != api.ErrText || at > len(src) || !isZero(n) {
				t.Errorf("%s and %d times %s: %d at %d", so, times, piece, e, at)
			}
		}
	}
	most := strings.Repeat("(", api.MaxTokens-7)
	fault(t, "func f(){return "+most, 16+len(most), api.ErrText)
	stars := strings.Repeat("*", api.MaxTokens-5)
	fault(t, "func f(a "+stars, 9+len(stars), api.ErrText)
}

// R4: what is answered shares no memory within itself, nor with another answer.
func TestParseMemory(t *testing.T) {
	src := strings.Join(goodTexts, "\n")
	n := parsed(t, src)
	want := copied(n)
	other := parsed(t, src)
	spoilSpare(n)
	if !same(n, want) {
		t.Errorf("lists of one answer share spare room")
	}
	spoil(n)
	if !same(other, want) || !same(parsed(t, src), want) {
		t.Errorf("two answers share memory")
	}
}

var junk = api.Node{Kind: -1, Text: "junk", Num: -1}

func spoilSpare(n api.Node) {
	for i := range n.Kids {
		spoilSpare(n.Kids[i])
	}
	spare := n.Kids[len(n.Kids):cap(n.Kids)]
	for i := range spare {
		spare[i] = junk
	}
}

func spoil(n api.Node) {
	for i := range n.Kids {
		spoil(n.Kids[i])
		n.Kids[i] = junk
	}
}
