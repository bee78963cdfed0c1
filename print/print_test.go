package print_test

import (
	"math"
	"slices"
	"strconv"
	"strings"
	"testing"

	"halyard/api"
	"halyard/parse"
	"halyard/print"
	"halyard/scan"
)

// short: a text for a message.
func short(s string) string {
	if len(s) > 120 {
		s = s[:120] + ".."
	}
	return strconv.Quote(s)
}

func parsed(t *testing.T, src string) api.Node {
	t.Helper()
	n, at, e := parse.Parse(src)
	if e != api.OK {
		t.Fatalf("Parse(%s): %d at %d", short(src), e, at)
	}
	return n
}

// isText: the tree's text is just this one.
func isText(t *testing.T, n api.Node, want string) {
	t.Helper()
	if s, e := print.Text(n); s != want || e != api.OK {
		t.Errorf("Text: %s, %d; want %s", short(s), e, short(want))
	}
}

// failsText, failsExpr: just this error.

func failsText(t *testing.T, n api.Node, want api.Errno) {
	t.Helper()
	if s, e := print.Text(n); s != "" || e != want {
		t.Errorf("Text: %s, %d; want %d: kind %d", short(s), e, want, n.Kind)
	}
}

func failsExpr(t *testing.T, n api.Node, want api.Errno) {
	t.Helper()
	if s, e := print.Expr(n); s != "" || e != want {
		t.Errorf("Expr: %s, %d; want %d: kind %d", short(s), e, want, n.Kind)
	}
}

// prints: of a program's text, its tree's text.
func prints(t *testing.T, src, want string) {
	t.Helper()
	isText(t, parsed(t, src), want)
}

// printsStmts: of statements in a function.
func printsStmts(t *testing.T, src, want string) {
	t.Helper()
	prints(t, "func f() { "+src+" }", "func f ( ) {\n"+want+"}\n")
}

// printsExpr: of an expression, in a program and alone. In the program, the ; stands behind a blank, if no line ends there.
func printsExpr(t *testing.T, src, want string) {
	t.Helper()
	blank := " "
	if strings.HasSuffix(want, "\n") {
		blank = ""
	}
	printsStmts(t, "return "+src+";", "return "+want+blank+";\n")
	n := parsed(t, "func f() { return "+src+"; }").Kids[0].Kids[1].Kids[0].Kids[0]
	if s, e := print.Expr(n); s != want || e != api.OK {
		t.Errorf("Expr of %s: %s, %d; want %s", src, short(s), e, short(want))
	}
}

// Short forms of nodes.

func name(s string) api.Node               { return tree(api.EName, s, 0) }
func num(n int) api.Node                   { return tree(api.EInt, "", n) }
func str(s string) api.Node                { return tree(api.EStr, s, 0) }
func typ(s string) api.Node                { return tree(api.TyName, s, 0) }
func unary(op string, n api.Node) api.Node { return tree(api.EUnary, op, 0, n) }

func main0(stmts ...api.Node) api.Node {
	return tree(api.NProg, "", 0, tree(api.NFunc, "f", 0, tree(api.NSig, "", 0), tree(api.SBlock, "", 0, stmts...)))
}

// returns: a program that returns these.
func returns(list ...api.Node) api.Node { return main0(tree(api.SReturn, "", 0, list...)) }

// P3.1 and P3.2: the examples, and each form's text.

func TestTextExample(t *testing.T) {
	prints(t, "func main(){print(1);}", "func main ( ) {\nprint ( 1 ) ;\n}\n")
	printsExpr(t, "a-b*c", "( a - ( b * c ) )")
	printsExpr(t, "S{1}.x", "( S {\n1 }\n) . x")
}

func TestTextDeclarations(t *testing.T) {
	prints(t, "", "")
	prints(t, "type T struct{}", "type T struct {\n}\n")
	prints(t, "type T struct{a int;b*T;}", "type T struct {\na int ;\nb * T ;\n}\n")
	prints(t, "type I interface{}", "type I interface {\n}\n")
	prints(t, "type I interface{m();n(a int)bool;}", "type I interface {\nm ( ) ;\nn ( a int ) bool ;\n}\n")
	prints(t, "func f(){}", "func f ( ) {\n}\n")
	prints(t, "func f(){}type T struct{}func g(){}", "func f ( ) {\n}\ntype T struct {\n}\nfunc g ( ) {\n}\n")
	prints(t, "func(p*T)m(a int)int{}", "func ( p * T ) m ( a int ) int {\n}\n")
	prints(t, "func(p*T)m(){}", "func ( p * T ) m ( ) {\n}\n")
}

func TestTextSignatures(t *testing.T) {
	for src, want := range map[string]string{
		"()":            "( )",
		"(a A)":         "( a A )",
		"(a A,b B,c C)": "( a A , b B , c C )",
		"()C":           "( ) C",
		"()(C)":         "( ) C", // one result has no brackets
		"()(C,D)":       "( ) ( C , D )",
		"(a A)(C,D,E)":  "( a A ) ( C , D , E )",
		"()(*C)":        "( ) * C",
		"()([]C)":       "( ) [ ] C",
		"()(func())":    "( ) func ( )",
		"()func()C":     "( ) func ( ) C",
		"()(func(),C)":  "( ) ( func ( ) , C )",
		"(a func(A)B)":  "( a func ( A ) B )",
	} {
		prints(t, "func f"+src+"{}", "func f "+want+" {\n}\n")
		prints(t, "func (p *T) f"+src+"{}", "func ( p * T ) f "+want+" {\n}\n")
		prints(t, "type I interface{f"+src+";}", "type I interface {\nf "+want+" ;\n}\n")
		printsExpr(t, "func"+src+"{}", "func "+want+" {\n}\n")
	}
}

func TestTextTypes(t *testing.T) {
	for src, want := range map[string]string{
		"A":                        "A",
		"**A":                      "* * A",
		"[][]A":                    "[ ] [ ] A",
		"*[]*A":                    "* [ ] * A",
		"func()":                   "func ( )",
		"func(A,B)":                "func ( A , B )",
		"func(A)(B)":               "func ( A ) B",
		"func()(A,B)":              "func ( ) ( A , B )",
		"func(func(A)B)func(C)D":   "func ( func ( A ) B ) func ( C ) D",
		"func(func(A),B)(func(C))": "func ( func ( A ) , B ) func ( C )",
	} {
		prints(t, "type T struct{a "+src+";}", "type T struct {\na "+want+" ;\n}\n")
		printsStmts(t, "var a "+src+";", "var a "+want+" ;\n")
		printsStmts(t, "var a "+src+"=1;", "var a "+want+" = 1 ;\n")
		printsExpr(t, "[]"+src+"{}", "[ ] "+want+" {\n}\n")
	}
}

func TestTextStatements(t *testing.T) {
	for src, want := range map[string]string{
		"":                         "",
		"a:=1;":                    "a := 1 ;\n",
		"a,b:=c,-1;":               "a , b := c , ( - 1 ) ;\n",
		"(a),b:=c();":              "a , b := c ( ) ;\n",
		"a:=b,c;":                  "a := b , c ;\n",
		"a=b;":                     "a = b ;\n",
		"a.b,a[1],*a,c=1,2;":       "a . b , a [ 1 ] , ( * a ) , c = 1 , 2 ;\n",
		"**a.b=1;":                 "( * ( * a . b ) ) = 1 ;\n",
		"T{1}.b=1;":                "( T {\n1 }\n) . b = 1 ;\n",
		"a();":                     "a ( ) ;\n",
		"((a()));":                 "a ( ) ;\n", // a call has no brackets of its own
		"func(){}();":              "func ( ) {\n}\n( ) ;\n",
		"return;":                  "return ;\n",
		"return a;":                "return a ;\n",
		"return a,b,c;":            "return a , b , c ;\n",
		"break;continue;":          "break ;\ncontinue ;\n",
		"{}{{}}":                   "{\n}\n{\n{\n}\n}\n",
		"for{}":                    "for {\n}\n",
		"for a{break;}":            "for a {\nbreak ;\n}\n",
		"for a<1{}":                "for ( a < 1 ) {\n}\n",
		"if a{}":                   "if a {\n}\n",
		"if a{}{}":                 "if a {\n}\n{\n}\n",
		"if(T{}){}":                "if ( T {\n}\n) {\n}\n",
		"if a{}else{return;}":      "if a {\n}\nelse {\nreturn ;\n}\n",
		"if a{}else if b{}":        "if a {\n}\nelse if b {\n}\n",
		"if a{}else if b{}else{}":  "if a {\n}\nelse if b {\n}\nelse {\n}\n",
		"if a{}else{if b{}else{}}": "if a {\n}\nelse {\nif b {\n}\nelse {\n}\n}\n",
		"if[]T{}[0]{}":             "if [ ] T {\n}\n[ 0 ] {\n}\n",
		"if func()bool{}(){}":      "if func ( ) bool {\n}\n( ) {\n}\n",
	} {
		printsStmts(t, src, want)
	}
}

func TestTextExpressions(t *testing.T) {
	for src, want := range map[string]string{
		"0":                       "0",
		"9223372036854775807":     "9223372036854775807",
		`""`:                      `""`,
		`"\x41\n\t\"\\\x00\xff"`:  `"A\n\t\"\\\x00\xff"`,
		"true":                    "true",
		"false":                   "false",
		"nil":                     "nil",
		"a":                       "a",
		"((a))":                   "a",
		"T{}":                     "( T {\n}\n)",
		"T{a,T{}}":                "( T {\na , ( T {\n}\n) }\n)",
		"[]T{}":                   "[ ] T {\n}\n",
		"[]T{1}":                  "[ ] T {\n1 }\n",
		"[][]T{[]T{1,2},nil}":     "[ ] [ ] T {\n[ ] T {\n1 , 2 }\n, nil }\n",
		"func(){return;}":         "func ( ) {\nreturn ;\n}\n",
		"a.b.c":                   "a . b . c",
		"1 .b":                    "1 . b",
		"a[b][1]":                 "a [ b ] [ 1 ]",
		"a[:]":                    "a [ : ]",
		"a[1:]":                   "a [ 1 : ]",
		"a[:2]":                   "a [ : 2 ]",
		"a[1:2]":                  "a [ 1 : 2 ]",
		"a[-1:b+c]":               "a [ ( - 1 ) : ( b + c ) ]",
		"a()":                     "a ( )",
		"(a(b))(c,d)":             "a ( b ) ( c , d )",
		"a(b+c)":                  "a ( ( b + c ) )", // the call's brackets are not the sum's
		"a[(b+c)]":                "a [ ( b + c ) ]",
		"a((-1),T{})":             "a ( ( - 1 ) , ( T {\n}\n) )",
		"(a+b).c":                 "( a + b ) . c",
		"(-a)()":                  "( - a ) ( )",
		"-a()":                    "( - a ( ) )",
		"(&T{}).a":                "( & ( T {\n}\n) ) . a",
		"([]T{})[0]":              "[ ] T {\n}\n[ 0 ]",
		"(func(){})()":            "func ( ) {\n}\n( )",
		"(func(a T)T{return a;})": "func ( a T ) T {\nreturn a ;\n}\n",
		"-!&*a":                   "( - ( ! ( & ( * a ) ) ) )",
		"a-b-c":                   "( ( a - b ) - c )",
		"a-(b-c)":                 "( a - ( b - c ) )",
		"a||b&&c==d+e*f":          "( a || ( b && ( c == ( d + ( e * f ) ) ) ) )",
	} {
		printsExpr(t, src, want)
	}
	for _, op := range binaries {
		printsExpr(t, "a"+op+"b", "( a "+op+" b )")
	}
	for _, op := range strings.Fields("- ! & *") {
		printsExpr(t, op+"a", "( "+op+" a )")
	}
}

// A string's bytes end no line and begin no token, whatever they are.
func TestTextStrings(t *testing.T) {
	all := make([]byte, 256)
	for i := range all {
		all[i] = byte(i)
		s := string(all[i : i+1])
		isText(t, returns(str(s), str(s)), "func f ( ) {\nreturn "+scan.Quote(s)+" , "+scan.Quote(s)+" ;\n}\n")
	}
	for _, s := range []string{"{", "}", ";", "{ }", "a;\n", "//", string(all), strings.Repeat("\x00", api.MaxLen)} {
		want := scan.Quote(s)
		isText(t, returns(str(s)), "func f ( ) {\nreturn "+want+" ;\n}\n")
		if got, e := print.Expr(str(s)); got != want || e != api.OK {
			t.Errorf("Expr of %s: %s, %d", short(s), short(got), e)
		}
		if back := parsed(t, "func f() { return "+want+"; }"); !same(back, returns(str(s))) {
			t.Errorf("%s is not read back", short(s))
		}
	}
}

// P3.1: ErrForm of what is no program's tree.

var goodTexts = []string{
	"", "type T struct { a int; b func(int) (int, *T); }", "type I interface { m(a int) int; }",
	"func (p *T) m() (int, bool) { return 1, true; }",
	"func main() { for { break; } for a { continue; } if a { } else if b { } else { } a, b.c, d[1], *e = f(); x, y := g(); var z []T = nil; { } }",
	"func main() { if (T{1}.a < -2) && f(T{}) { print(\"a\" + s[1:][:2][3:4]); } }",
	"func g(f func(int) int, a []int) func() { return func() { a[0] = f(&*p.x[1]); }; }",
}

func TestTextNoProgram(t *testing.T) {
	failsText(t, api.Node{}, api.ErrForm)
	for _, src := range goodTexts {
		n := parsed(t, src)
		for _, at := range nodes(&n)[1:] {
			failsText(t, *at, api.ErrForm) // a part of a program is none
		}
	}
	for _, kind := range allKinds {
		if kind != api.NProg {
			failsText(t, api.Node{Kind: kind}, api.ErrForm)
		}
		failsText(t, tree(api.NProg, "", 0, tree(kind, "", 0)), api.ErrForm)
		failsText(t, tree(kind, "a", 0), api.ErrForm)
		failsText(t, tree(kind, "", 1), api.ErrForm)
	}
	for _, n := range []api.Node{
		num(-1), num(math.MinInt), name(""), name("for"), name("a b"), name(strings.Repeat("n", api.MaxName+1)), str(strings.Repeat("s", api.MaxLen+1)),
		tree(api.EBool, "", 2), tree(api.ECut, "", 1, name("a")), tree(api.ECut, "", 4, name("a")), tree(api.ECut, "", 0), tree(api.ECall, "", 0), tree(api.EUnary, "+", 0, name("a")),
		tree(api.EBinary, "=", 0, name("a"), name("a")), tree(api.EBinary, "+", 0, name("a")), tree(api.EIndex, "", 0, name("a")), tree(api.EList, "", 0), tree(api.EFunc, "", 0), typ("a"),
		tree(api.ESel, "a", 0), tree(api.ESel, "", 0, name("a")), tree(api.ENil, "", 0, name("a")),
	} {
		failsText(t, returns(n), api.ErrForm)
		failsExpr(t, n, api.ErrForm)
	}
	failsText(t, main0(tree(api.SExpr, "", 0, name("a"))), api.ErrForm)
	failsText(t, main0(tree(api.SAssign, "", 1, num(1), num(1))), api.ErrForm)
	failsText(t, main0(tree(api.SDefine, "", 1, unary("*", name("a")), num(1))), api.ErrForm)
	failsText(t, main0(tree(api.SDefine, "", math.MaxInt, name("a"), num(1))), api.ErrForm)
}

// P3.2: ErrForm of what is no expression's tree, as statements, types and declarations are.
func TestExprNoExpression(t *testing.T) {
	failsExpr(t, api.Node{}, api.ErrForm)
	for _, src := range goodTexts {
		n := parsed(t, src)
		for _, at := range nodes(&n) {
			if at.Kind < api.EInt {
				failsExpr(t, *at, api.ErrForm)
			} else if s, e := print.Expr(*at); s == "" || e != api.OK {
				t.Errorf("Expr: %s, %d: kind %d", short(s), e, at.Kind)
			}
		}
	}
	for _, kind := range allKinds {
		if kind != api.EInt && kind != api.EStr && kind != api.EBool && kind != api.ENil {
			failsExpr(t, api.Node{Kind: kind}, api.ErrForm)
		}
		failsExpr(t, unary("-", tree(kind, "", -1)), api.ErrForm)
	}
}

// deep: so many nodes, one in another.
func deep(size int) api.Node {
	n := name("a")
	for range size - 1 {
		n = tree(api.ESel, "b", 0, n)
	}
	return n
}

// P3.2: an expression stands below four nodes at least: the program, the function, its block and the statement.
func TestExprDepth(t *testing.T) {
	most := api.MaxDepth - 4
	want := "a" + strings.Repeat(" . b", most-1)
	if s, e := print.Expr(deep(most)); s != want || e != api.OK {
		t.Errorf("Expr: %s, %d", short(s), e)
	}
	isText(t, returns(deep(most)), "func f ( ) {\nreturn "+want+" ;\n}\n")
	failsExpr(t, deep(most+1), api.ErrForm)
	failsText(t, returns(deep(most+1)), api.ErrForm)
	failsExpr(t, deep(api.MaxDepth), api.ErrForm)
	failsExpr(t, deep(1<<16), api.ErrForm)
	failsText(t, returns(deep(1<<16)), api.ErrForm)
}

// pointers: a type of so many nodes.
func pointers(size int) api.Node {
	n := typ("T")
	for range size - 1 {
		n = tree(api.TyPtr, "", 0, n)
	}
	return n
}

// lists: a call of so many nodes, nearly all of them of types, so that they have few bytes.
func lists(size int) api.Node {
	n := tree(api.ECall, "", 0, name("a"))
	for size -= 2; size > 0; size -= 91 {
		if size == 1 {
			n.Kids = append(n.Kids, name("a"))
			break
		}
		n.Kids = append(n.Kids, tree(api.EList, "", 0, pointers(min(size, 91)-1)))
	}
	return n
}

// P3.2: five nodes at least stand beside an expression: those above it, and the signature.
func TestExprNodes(t *testing.T) {
	most := lists(api.MaxNodes - 5)
	if len(nodes(&most)) != api.MaxNodes-5 {
		t.Fatalf("%d nodes", len(nodes(&most)))
	}
	want := laidOut(tokensOf(most))
	if s, e := print.Expr(most); s != want || e != api.OK || len(s) > api.MaxText {
		t.Errorf("Expr: %d bytes, %d; want %d", len(s), e, len(want))
	}
	hold(t, returns(most))
	failsExpr(t, lists(api.MaxNodes-4), api.ErrForm)
	failsText(t, returns(lists(api.MaxNodes-4)), api.ErrForm)
	failsExpr(t, lists(api.MaxNodes+1), api.ErrForm)
}

// fields: a program of so many nodes, nearly all of them of types.
func fields(size int) api.Node {
	n := tree(api.NStruct, "T", 0)
	for size -= 2; size > 0; size -= 98 {
		if size == 1 {
			return tree(api.NProg, "", 0, n, tree(api.NStruct, "T", 0))
		}
		n.Kids = append(n.Kids, tree(api.NField, "a", 0, pointers(min(size, 98)-1)))
	}
	return tree(api.NProg, "", 0, n)
}

// What follows of P3.1: a program may have a text of more tokens than Parse takes; the text is answered all the same.
func TestTextNodes(t *testing.T) {
	n := fields(api.MaxNodes)
	if len(nodes(&n)) != api.MaxNodes {
		t.Fatalf("%d nodes", len(nodes(&n)))
	}
	if !hold(t, n) {
		t.Errorf("no text of %d nodes", api.MaxNodes)
	}
	s, _ := print.Text(n)
	if _, _, e := parse.Parse(s); len(tokensOf(n)) <= api.MaxTokens || e != api.ErrLarge {
		t.Errorf("%d tokens, Parse: %d", len(tokensOf(n)), e)
	}
	failsText(t, fields(api.MaxNodes+1), api.ErrForm)
}

func TestTextTokens(t *testing.T) {
	blocks := make([]api.Node, (api.MaxTokens-6)/2)
	for i := range blocks {
		blocks[i] = tree(api.SBlock, "", 0)
	}
	n := main0(blocks...)
	if len(tokensOf(n)) != api.MaxTokens || !hold(t, n) {
		t.Errorf("%d tokens", len(tokensOf(n)))
	}
	s, _ := print.Text(n)
	if !same(parsed(t, s), n) {
		t.Errorf("%d tokens are not read back", api.MaxTokens)
	}
}

// sized: strings whose tokens have so many bytes in all, with the three bytes of a comma between two.
func sized(size int) []api.Node {
	var list []api.Node
	for size > 0 {
		have := min(size, api.MaxLen)
		if left := size - have; left > 0 && left < 5 {
			have -= 5
		}
		list = append(list, str(strings.Repeat("s", have-2)))
		size -= have + 3
	}
	return list
}

// P3.1, P3.2: a text of MaxText bytes, and one byte more.
func TestLarge(t *testing.T) {
	frame := len("func f ( ) {\nreturn  ;\n}\n")
	most := returns(sized(api.MaxText - frame)...)
	if s, e := print.Text(most); len(s) != api.MaxText || e != api.OK {
		t.Errorf("Text: %d bytes, %d", len(s), e)
	}
	hold(t, most)
	failsText(t, returns(sized(api.MaxText-frame+1)...), api.ErrLarge)

	call := func(size int) api.Node {
		return tree(api.ECall, "", 0, append([]api.Node{name("a")}, sized(size-len("a (  )"))...)...)
	}
	if s, e := print.Expr(call(api.MaxText)); len(s) != api.MaxText || e != api.OK {
		t.Errorf("Expr: %d bytes, %d", len(s), e)
	}
	failsExpr(t, call(api.MaxText+1), api.ErrLarge)
	failsText(t, returns(call(api.MaxText)), api.ErrLarge)
}

// The limit is met by the byte 10 at the end, too.
func TestLargeEnd(t *testing.T) {
	list := func(size int) api.Node {
		return tree(api.EList, "", 0, append([]api.Node{typ("T")}, sized(size-len("[ ] T {\n }\n"))...)...)
	}
	if s, e := print.Expr(list(api.MaxText)); len(s) != api.MaxText || e != api.OK || !strings.HasSuffix(s, " }\n") {
		t.Errorf("Expr: %d bytes, %d", len(s), e)
	}
	failsExpr(t, list(api.MaxText+1), api.ErrLarge)
}

// Which error is looked at first: a tree that is not sound has no text that is too long.
func TestErrFormFirst(t *testing.T) {
	long := slices.Repeat([]api.Node{str(strings.Repeat("\x00", api.MaxLen))}, api.MaxNodes-5)
	failsText(t, returns(long...), api.ErrLarge)
	call := tree(api.ECall, "", 0, long[1:]...)
	failsExpr(t, call, api.ErrLarge)
	call.Kids[len(call.Kids)-1] = num(-1)
	failsExpr(t, call, api.ErrForm)
	failsText(t, returns(call), api.ErrForm)
	failsText(t, returns(append(long[:api.MaxNodes-6], typ("T"))...), api.ErrForm)
	failsText(t, returns(slices.Repeat(long[:1], api.MaxNodes-4)...), api.ErrForm)
}

// R1, R8: a tree without an end, and one whose parts are the same many times over.
func TestEnds(t *testing.T) {
	ring := []api.Node{unary("-", name("a"))}
	ring[0].Kids = ring
	for _, kind := range allKinds {
		ring[0].Kind = kind
		failsText(t, ring[0], api.ErrForm)
		failsText(t, returns(ring...), api.ErrForm)
		failsText(t, main0(ring...), api.ErrForm)
		failsExpr(t, ring[0], api.ErrForm)
	}
	n := name("a")
	for range 90 {
		n = tree(api.EBinary, "+", 0, n, n)
	}
	failsExpr(t, n, api.ErrForm)
	failsText(t, returns(n), api.ErrForm)
}

// R4: what is handed in is not changed, spare room included.
func TestLeavesItsTree(t *testing.T) {
	junk := tree(99, "junk", 7)
	n := copied(parsed(t, strings.Join(goodTexts, "\n")))
	for _, at := range nodes(&n) {
		at.Kids = slices.Grow(at.Kids, 3)
		spare := at.Kids[len(at.Kids):cap(at.Kids)]
		for i := range spare {
			spare[i] = junk
		}
	}
	want := copied(n)
	hold(t, n)
	for _, at := range nodes(&n) {
		print.Expr(*at)
	}
	if !same(n, want) {
		t.Errorf("the tree is changed")
	}
	for _, at := range nodes(&n) {
		for _, kid := range at.Kids[len(at.Kids):cap(at.Kids)] {
			if !same(kid, junk) {
				t.Fatalf("spare room is changed: %v", kid)
			}
		}
	}
}

// R4: nil and empty lists are the same.
func TestEmptyLists(t *testing.T) {
	empty := []api.Node{}
	isText(t, api.Node{Kind: api.NProg, Kids: empty}, "")
	isText(t, returns(api.Node{Kind: api.ENil, Kids: empty}, api.Node{Kind: api.ELit, Text: "T", Kids: empty}), "func f ( ) {\nreturn nil , ( T {\n}\n) ;\n}\n")
}

// R5: a call answers the same behind others, those with errors too.
func TestNothingIsKept(t *testing.T) {
	for range 2 {
		failsExpr(t, tree(api.ECall, "", 0, sized(api.MaxText)...), api.ErrLarge)
		printsExpr(t, "a[1]", "a [ 1 ]")
		failsText(t, api.Node{}, api.ErrForm)
		prints(t, "func f(){}", "func f ( ) {\n}\n")
		failsExpr(t, api.Node{}, api.ErrForm)
		prints(t, "", "")
	}
}
