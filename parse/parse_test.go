package parse_test

import (
	"math/rand"
	"strconv"
	"strings"
	"testing"

	"halyard/api"
	"halyard/parse"
)

// short: a text for a message.
func short(src string) string {
	if len(src) > 120 {
		src = src[:120] + ".."
	}
	return strconv.Quote(src)
}

// parsed: Parse answers a tree, which is sound.
func parsed(t *testing.T, src string) api.Node {
	t.Helper()
	n, at, e := parse.Parse(src)
	if e != api.OK || at != 0 || !parse.Sound(n) {
		t.Fatalf("Parse(%s): %d at %d, sound %t; want a sound tree", short(src), e, at, parse.Sound(n))
	}
	return n
}

// fault: Parse answers just this error and place.
func fault(t *testing.T, src string, place int, want api.Errno) {
	t.Helper()
	n, at, e := parse.Parse(src)
	if !isZero(n) || at != place || e != want {
		t.Errorf("Parse(%s): %d at %d, tree of kind %d; want %d at %d and none", short(src), e, at, n.Kind, want, place)
	}
}

// isTree: the text's tree is just this one.
func isTree(t *testing.T, src string, want api.Node) {
	t.Helper()
	if n := parsed(t, src); !same(n, want) {
		t.Errorf("Parse(%s) = %v; want %v", short(src), n, want)
	}
}

// Short forms of nodes.

func name(s string) api.Node                            { return tree(api.EName, s, 0) }
func num(n int) api.Node                                { return tree(api.EInt, "", n) }
func typ(s string) api.Node                             { return tree(api.TyName, s, 0) }
func block(kids ...api.Node) api.Node                   { return tree(api.SBlock, "", 0, kids...) }
func call(kids ...api.Node) api.Node                    { return tree(api.ECall, "", 0, kids...) }
func unary(op string, n api.Node) api.Node              { return tree(api.EUnary, op, 0, n) }
func binary(a api.Node, op string, b api.Node) api.Node { return tree(api.EBinary, op, 0, a, b) }
func param(s string, n api.Node) api.Node               { return tree(api.NParam, s, 0, n) }
func field(s string, n api.Node) api.Node               { return tree(api.NField, s, 0, n) }
func sig(params int, kids ...api.Node) api.Node         { return tree(api.NSig, "", params, kids...) }
func prog(kids ...api.Node) api.Node                    { return tree(api.NProg, "", 0, kids...) }

func main0(stmts ...api.Node) api.Node {
	return prog(tree(api.NFunc, "f", 0, sig(0), block(stmts...)))
}

// isStmts: these statements, in a function.
func isStmts(t *testing.T, src string, want ...api.Node) {
	t.Helper()
	isTree(t, "func f() { "+src+" }", main0(want...))
}

// isExpr: this expression, in a return, and in brackets in the head of an if.
func isExpr(t *testing.T, src string, want api.Node) {
	t.Helper()
	isStmts(t, "return "+src+";", tree(api.SReturn, "", 0, want))
	isStmts(t, "if ("+src+") { }", tree(api.SIf, "", 0, want, block()))
}

// P2.1: the example, and each form's tree.

func TestParseExample(t *testing.T) {
	isTree(t, "func main(){print(1);}", prog(tree(api.NFunc, "main", 0, sig(0), block(tree(api.SExpr, "", 0, call(name("print"), num(1)))))))
	fault(t, "func", 4, api.ErrText)
	fault(t, "func main(){1;}", 13, api.ErrText)
	fault(t, "func main(){f()=1;}", 15, api.ErrText)
	fault(t, "func main(){a.b:=1;}", 15, api.ErrText)
	isTree(t, "func f(){if x{}{}}", main0(tree(api.SIf, "", 0, name("x"), block()), block()))
	isTree(t, "func f(){if (x{}) {}}", main0(tree(api.SIf, "", 0, tree(api.ELit, "x", 0), block())))
}

func TestParseDeclarations(t *testing.T) {
	isTree(t, "", prog())
	isTree(t, " // nothing\n", prog())
	isTree(t, "type T struct { }", prog(tree(api.NStruct, "T", 0)))
	isTree(t, "type T struct { a int; b *T; }", prog(tree(api.NStruct, "T", 0, field("a", typ("int")), field("b", tree(api.TyPtr, "", 0, typ("T"))))))
	isTree(t, "type I interface { }", prog(tree(api.NIface, "I", 0)))
	isTree(t, "type I interface { m(); n(a int) bool; }", prog(tree(api.NIface, "I", 0, field("m", sig(0)), field("n", sig(1, param("a", typ("int")), typ("bool"))))))
	isTree(t, "func f() { }", main0())
	isTree(t, "func f() { } func f() { } type f struct { }", prog(main0().Kids[0], main0().Kids[0], tree(api.NStruct, "f", 0)))
	isTree(t, "func (p *T) m(a int) int { }", prog(tree(api.NMethod, "m", 0, param("p", tree(api.TyPtr, "", 0, typ("T"))), sig(1, param("a", typ("int")), typ("int")), block())))
}

func TestParseSignatures(t *testing.T) {
	a, b := param("a", typ("A")), param("b", typ("B"))
	for src, want := range map[string]api.Node{
		"()":                 sig(0),
		"(a A)":              sig(1, a),
		"(a A, b B)":         sig(2, a, b),
		"() C":               sig(0, typ("C")),
		"() (C)":             sig(0, typ("C")),
		"(a A) (C, D)":       sig(1, a, typ("C"), typ("D")),
		"(a A, b B) (C)":     sig(2, a, b, typ("C")),
		"() (C, D, E)":       sig(0, typ("C"), typ("D"), typ("E")),
		"() *C":              sig(0, tree(api.TyPtr, "", 0, typ("C"))),
		"() []C":             sig(0, tree(api.TySlice, "", 0, typ("C"))),
		"() func() C":        sig(0, tree(api.TyFunc, "", 0, typ("C"))),
		"() (func(), C)":     sig(0, tree(api.TyFunc, "", 0), typ("C")),
		"() func() (C, D)":   sig(0, tree(api.TyFunc, "", 0, typ("C"), typ("D"))),
		"(a func(A) B)":      sig(1, param("a", tree(api.TyFunc, "", 1, typ("A"), typ("B")))),
		"(a func(A), b B) C": sig(2, param("a", tree(api.TyFunc, "", 1, typ("A"))), b, typ("C")),
	} {
		isTree(t, "func f"+src+" { }", prog(tree(api.NFunc, "f", 0, want, block())))
		isTree(t, "type I interface { m"+src+"; }", prog(tree(api.NIface, "I", 0, field("m", want))))
		isExpr(t, "func"+src+" { }", tree(api.EFunc, "", 0, want, block()))
	}
}

func TestParseTypes(t *testing.T) {
	ptr := func(n api.Node) api.Node { return tree(api.TyPtr, "", 0, n) }
	list := func(n api.Node) api.Node { return tree(api.TySlice, "", 0, n) }
	for src, want := range map[string]api.Node{
		"A":                          typ("A"),
		"**A":                        ptr(ptr(typ("A"))),
		"[][]A":                      list(list(typ("A"))),
		"*[]*A":                      ptr(list(ptr(typ("A")))),
		"func()":                     tree(api.TyFunc, "", 0),
		"func(A)":                    tree(api.TyFunc, "", 1, typ("A")),
		"func(A, B) C":               tree(api.TyFunc, "", 2, typ("A"), typ("B"), typ("C")),
		"func() (A, B)":              tree(api.TyFunc, "", 0, typ("A"), typ("B")),
		"*func() []A":                ptr(tree(api.TyFunc, "", 0, list(typ("A")))),
		"func(func(A) B) func(C) D":  tree(api.TyFunc, "", 1, tree(api.TyFunc, "", 1, typ("A"), typ("B")), tree(api.TyFunc, "", 1, typ("C"), typ("D"))),
		"func(func(A), B) (func(C))": tree(api.TyFunc, "", 2, tree(api.TyFunc, "", 1, typ("A")), typ("B"), tree(api.TyFunc, "", 1, typ("C"))),
	} {
		isTree(t, "type T struct { a "+src+"; }", prog(tree(api.NStruct, "T", 0, field("a", want))))
		isStmts(t, "var a "+src+";", tree(api.SVar, "a", 0, want))
		isStmts(t, "var a "+src+" = 1;", tree(api.SVar, "a", 0, want, num(1)))
		isExpr(t, "[]"+src+"{1}", tree(api.EList, "", 0, want, num(1)))
	}
}

func TestParseStatements(t *testing.T) {
	define := func(names int, kids ...api.Node) api.Node { return tree(api.SDefine, "", names, kids...) }
	assign := func(places int, kids ...api.Node) api.Node { return tree(api.SAssign, "", places, kids...) }
	a, b, c := name("a"), name("b"), name("c")
	isStmts(t, "a := 1;", define(1, a, num(1)))
	isStmts(t, "a, b := c, 1;", define(2, a, b, c, num(1)))
	isStmts(t, "a, b := c();", define(2, a, b, call(c)))
	isStmts(t, "a := b, c;", define(1, a, b, c))
	isStmts(t, "(a), ((b)) := 1;", define(2, a, b, num(1)))
	isStmts(t, "a = b;", assign(1, a, b))
	isStmts(t, "a, b = b, a;", assign(2, a, b, b, a))
	isStmts(t, "a.b, a[b], *a, c = 1;", assign(4, tree(api.ESel, "b", 0, a), tree(api.EIndex, "", 0, a, b), unary("*", a), c, num(1)))
	isStmts(t, "(a), (*a), (a.b) = 1;", assign(3, a, unary("*", a), tree(api.ESel, "b", 0, a), num(1)))
	isStmts(t, "*a.b = 1;", assign(1, unary("*", tree(api.ESel, "b", 0, a)), num(1)))
	isStmts(t, "**a = 1;", assign(1, unary("*", unary("*", a)), num(1)))
	isStmts(t, "a().b = 1;", assign(1, tree(api.ESel, "b", 0, call(a)), num(1)))
	isStmts(t, "T{1}.b = 1;", assign(1, tree(api.ESel, "b", 0, tree(api.ELit, "T", 0, num(1))), num(1)))
	isStmts(t, "[]T{}[1] = 1;", assign(1, tree(api.EIndex, "", 0, tree(api.EList, "", 0, typ("T")), num(1)), num(1)))
	isStmts(t, "a();", tree(api.SExpr, "", 0, call(a)))
	isStmts(t, "(a());", tree(api.SExpr, "", 0, call(a)))
	isStmts(t, "1();", tree(api.SExpr, "", 0, call(num(1))))
	isStmts(t, "func() { }();", tree(api.SExpr, "", 0, call(tree(api.EFunc, "", 0, sig(0), block()))))
	isStmts(t, "return;", tree(api.SReturn, "", 0))
	isStmts(t, "return a;", tree(api.SReturn, "", 0, a))
	isStmts(t, "return a, b, c;", tree(api.SReturn, "", 0, a, b, c))
	isStmts(t, "break; continue;", tree(api.SBreak, "", 0), tree(api.SNext, "", 0))
	isStmts(t, "{ { } { } }", block(block(), block()))
	isStmts(t, "for { break; }", tree(api.SFor, "", 0, block(tree(api.SBreak, "", 0))))
	isStmts(t, "for a { }", tree(api.SFor, "", 0, a, block()))
}

func TestParseIfs(t *testing.T) {
	a, b := name("a"), name("b")
	ifs := func(kids ...api.Node) api.Node { return tree(api.SIf, "", 0, kids...) }
	isStmts(t, "if a { }", ifs(a, block()))
	isStmts(t, "if a { } else { return; }", ifs(a, block(), block(tree(api.SReturn, "", 0))))
	isStmts(t, "if a { } else if b { }", ifs(a, block(), ifs(b, block())))
	isStmts(t, "if a { } else if b { } else { }", ifs(a, block(), ifs(b, block(), block())))
	isStmts(t, "if a { } if b { }", ifs(a, block()), ifs(b, block()))
	isStmts(t, "if a { if b { } else { } }", ifs(a, block(ifs(b, block(), block()))))
}

// In a head, { behind a name is the block's; in all brackets of the head, and behind it, a literal's.
func TestParseHeads(t *testing.T) {
	a, lit := name("a"), tree(api.ELit, "T", 0)
	literal := tree(api.SReturn, "", 0, lit)
	fun := func(stmts ...api.Node) api.Node { return tree(api.EFunc, "", 0, sig(0), block(stmts...)) }
	for src, want := range map[string]api.Node{
		"a":                               a,
		"a == T":                          binary(a, "==", name("T")),
		"a.T":                             tree(api.ESel, "T", 0, a),
		"-T":                              unary("-", name("T")),
		"(T{})":                           lit,
		"((T{}))":                         lit,
		"(T{}).a":                         tree(api.ESel, "a", 0, lit),
		"a(T{})":                          call(a, lit),
		"a(a, T{})":                       call(a, a, lit),
		"a[T{}]":                          tree(api.EIndex, "", 0, a, lit),
		"a[T{}:]":                         tree(api.ECut, "", 1, a, lit),
		"a[:T{}]":                         tree(api.ECut, "", 2, a, lit),
		"[]T{}":                           tree(api.EList, "", 0, typ("T")),
		"[]T{T{}}":                        tree(api.EList, "", 0, typ("T"), lit),
		"[]T{a(T{}), T{}}":                tree(api.EList, "", 0, typ("T"), call(a, lit), lit),
		"func() { }":                      fun(),
		"func() { return T{}; }":          fun(literal),
		"func() { return T{}; } == T":     binary(fun(literal), "==", name("T")),
		"func() { if T { } }":             fun(tree(api.SIf, "", 0, name("T"), block())),
		"func() { if T { return T{}; } }": fun(tree(api.SIf, "", 0, name("T"), block(literal))),
		"func() T { }":                    tree(api.EFunc, "", 0, sig(0, typ("T")), block()),
		"(func() { return T{}; })":        fun(literal),
	} {
		isStmts(t, "if "+src+" { return T{}; }", tree(api.SIf, "", 0, want, block(literal)))
		isStmts(t, "if a { } else if "+src+" { } return T{};", tree(api.SIf, "", 0, a, block(), tree(api.SIf, "", 0, want, block())), literal)
		isStmts(t, "for "+src+" { { return T{}; } }", tree(api.SFor, "", 0, want, block(block(literal))))
	}
	fault(t, "func f(){if T{1}.a{}}", 15, api.ErrText)
	fault(t, "func f(){if a(T{1}) == T{1} {}}", 26, api.ErrText)
	fault(t, "func f(){for T{}.a{}}", 16, api.ErrText)
	fault(t, "func f(){if a[1] == T{1, 2} {}}", 26, api.ErrText) // 1, 2 stands in the block
}

func TestParsePrimaries(t *testing.T) {
	a := name("a")
	for src, want := range map[string]api.Node{
		"0":                   num(0),
		"9223372036854775807": num(9223372036854775807),
		`""`:                  tree(api.EStr, "", 0),
		`"a\n"`:               tree(api.EStr, "a\n", 0),
		`"nil"`:               tree(api.EStr, "nil", 0),
		`"("`:                 tree(api.EStr, "(", 0),
		"true":                tree(api.EBool, "", 1),
		"false":               tree(api.EBool, "", 0),
		"nil":                 tree(api.ENil, "", 0),
		"a":                   a,
		"(a)":                 a,
		"(((a)))":             a,
		"T{}":                 tree(api.ELit, "T", 0),
		"T{a}":                tree(api.ELit, "T", 0, a),
		"T{a, 1, T{}}":        tree(api.ELit, "T", 0, a, num(1), tree(api.ELit, "T", 0)),
		"[]T{}":               tree(api.EList, "", 0, typ("T")),
		"[][]T{[]T{1}}":       tree(api.EList, "", 0, tree(api.TySlice, "", 0, typ("T")), tree(api.EList, "", 0, typ("T"), num(1))),
		"[]func(){a}":         tree(api.EList, "", 0, tree(api.TyFunc, "", 0), a),
		"[]func() T{a}":       tree(api.EList, "", 0, tree(api.TyFunc, "", 0, typ("T")), a),
		"func() { return; }":  tree(api.EFunc, "", 0, sig(0), block(tree(api.SReturn, "", 0))),
	} {
		isExpr(t, src, want)
	}
}

func TestParsePosts(t *testing.T) {
	a, b, c := name("a"), name("b"), name("c")
	sel := func(n api.Node, s string) api.Node { return tree(api.ESel, s, 0, n) }
	cut := func(num int, kids ...api.Node) api.Node { return tree(api.ECut, "", num, kids...) }
	for src, want := range map[string]api.Node{
		"a.b":           sel(a, "b"),
		"a.b.c":         sel(sel(a, "b"), "c"),
		"1.b":           sel(num(1), "b"),
		"a[b]":          tree(api.EIndex, "", 0, a, b),
		"a[b][c]":       tree(api.EIndex, "", 0, tree(api.EIndex, "", 0, a, b), c),
		"a[b[c]]":       tree(api.EIndex, "", 0, a, tree(api.EIndex, "", 0, b, c)),
		"a[:]":          cut(0, a),
		"a[b:]":         cut(1, a, b),
		"a[:c]":         cut(2, a, c),
		"a[b:c]":        cut(3, a, b, c),
		"a[b:c][:]":     cut(0, cut(3, a, b, c)),
		"a()":           call(a),
		"a(b)":          call(a, b),
		"a(b, c)":       call(a, b, c),
		"a()()":         call(call(a)),
		"a.b(c)[1].c()": call(sel(tree(api.EIndex, "", 0, call(sel(a, "b"), c), num(1)), "c")),
		"(a+b).c":       sel(binary(a, "+", b), "c"),
		"(-a)()":        call(unary("-", a)),
		"T{}.a":         sel(tree(api.ELit, "T", 0), "a"),
		"[]T{}[1]":      tree(api.EIndex, "", 0, tree(api.EList, "", 0, typ("T")), num(1)),
		"func() { }()":  call(tree(api.EFunc, "", 0, sig(0), block())),
		`"ab"[1:]`:      cut(1, tree(api.EStr, "ab", 0), num(1)),
	} {
		isExpr(t, src, want)
	}
}

func TestParseUnaries(t *testing.T) {
	a, b := name("a"), name("b")
	for _, op := range []string{"-", "!", "&", "*"} {
		isExpr(t, op+"a", unary(op, a))
		isExpr(t, op+" "+op+" a", unary(op, unary(op, a)))
		isExpr(t, op+"a.b", unary(op, tree(api.ESel, "b", 0, a)))
		isExpr(t, op+"a(b)", unary(op, call(a, b)))
		isExpr(t, op+"T{}", unary(op, tree(api.ELit, "T", 0)))
		isExpr(t, "("+op+"a).b", tree(api.ESel, "b", 0, unary(op, a)))
		isExpr(t, op+"a == b", binary(unary(op, a), "==", b))
		isExpr(t, "a == "+op+"b", binary(a, "==", unary(op, b)))
		isExpr(t, "a * "+op+"b", binary(a, "*", unary(op, b)))
		isExpr(t, op+"a * b", binary(unary(op, a), "*", b))
	}
	isExpr(t, "-!&*a", unary("-", unary("!", unary("&", unary("*", a)))))
	isExpr(t, "a && &b", binary(a, "&&", unary("&", b)))
	fault(t, "func f(){return &&a;}", 16, api.ErrText) // the two are one token
}

// Each pair of operators: the closer binds first, of one line the left one.
func TestParseBinaries(t *testing.T) {
	a, b, c := name("a"), name("b"), name("c")
	for _, one := range binaryOperators {
		isExpr(t, "a "+one+" b", binary(a, one, b))
		for _, two := range binaryOperators {
			left, right := binary(binary(a, one, b), two, c), binary(a, one, binary(b, two, c))
			isExpr(t, "(a "+one+" b) "+two+" c", left)
			isExpr(t, "a "+one+" (b "+two+" c)", right)
			if binaryRanks[two] > binaryRanks[one] {
				isExpr(t, "a "+one+" b "+two+" c", right)
			} else {
				isExpr(t, "a "+one+" b "+two+" c", left)
			}
		}
	}
	isExpr(t, "a || b && a == b + a * b", binary(a, "||", binary(b, "&&", binary(a, "==", binary(b, "+", binary(a, "*", b))))))
	isExpr(t, "a * b + a == b && a || b", binary(binary(binary(binary(binary(a, "*", b), "+", a), "==", b), "&&", a), "||", b))
}

var goodTexts = []string{
	"", "type T struct { a int; b func(int) (int, *T); }", "type I interface { m(a int) int; }",
	"func (p *T) m() (int, bool) { return 1, true; }",
	"func main() { for { break; } for a { continue; } if a { } else if b { } else { } a, b.c, d[1], *e = f(); x, y := g(); var z []T = nil; { } }",
	"func main() { if (T{1}.a < -2) && f(T{}) { print(\"a\" + s[1:][:2][3:4]); } }",
	"func g(f func(int) int, a []int) func() { return func() { a[0] = f(&*p.x[1]); }; }",
}

// P2.1: random trees, written with as few brackets as may be and with others, are read back.
func TestParseRandomTrees(t *testing.T) {
	pick := rand.New(rand.NewSource(4))
	for i := range 3000 {
		n := randomProgram(pick, 5+i%80)
		few, more := rendered(n, nil), rendered(n, pick)
		if !parse.Sound(n) {
			if at, e := placeOf(few); e != api.ErrLarge || at != 0 {
				t.Fatalf("not sound, %d at %d: %s", e, at, few)
			}
			continue
		}
		isTree(t, few, n)
		isTree(t, more, n)
		isTree(t, strings.ReplaceAll(more, " ", " // }\n\t"), n)
	}
}

func placeOf(src string) (int, api.Errno) {
	_, at, e := parse.Parse(src)
	return at, e
}
