package print_test

import (
	"math"
	"math/rand"
	"slices"
	"strconv"
	"strings"
	"testing"

	"halyard/api"
	"halyard/parse"
	"halyard/print"
	"halyard/scan"
)

// The grammar's lines, written as templates: a second way to the same tokens, against which Text and Expr are held.
// @ is a node's text, a digit one of its kids; 1.. are its kids from that one on, 1,, those with commas between them; P,, are as many of the first as its Num says, R,, the others.
var templates = map[int]string{
	api.NProg: "0..", api.NStruct: "type @ struct { 0.. }", api.NIface: "type @ interface { 0.. }",
	api.NFunc: "func @ 0 1", api.NMethod: "func ( 0 ) @ 1 2", api.NField: "@ 0 ;", api.NParam: "@ 0",
	api.TyName: "@", api.TyPtr: "* 0", api.TySlice: "[ ] 0",
	api.SBlock: "{ 0.. }", api.SDefine: "P,, := R,, ;", api.SAssign: "P,, = R,, ;", api.SExpr: "0 ;",
	api.SReturn: "return 0,, ;", api.SBreak: "break ;", api.SNext: "continue ;", api.SFor: "for 0..",
	api.ENil: "nil", api.EName: "@", api.ELit: "( @ { 0,, } )", api.EList: "[ ] 0 { 1,, }", api.EFunc: "func 0 1",
	api.ESel: "0 . @", api.EIndex: "0 [ 1 ]", api.ECall: "0 ( 1,, )", api.EUnary: "( @ 0 )", api.EBinary: "( 0 @ 1 )",
}

func templateOf(n api.Node) string {
	switch n.Kind {
	case api.NSig, api.TyFunc:
		return map[int]string{api.NSig: "", api.TyFunc: "func "}[n.Kind] + "( P,, ) " + []string{"", "R,,", "( R,, )"}[min(2, len(n.Kids)-n.Num)]
	case api.SVar:
		return []string{"", "var @ 0 ;", "var @ 0 = 1 ;"}[len(n.Kids)]
	case api.SIf:
		return []string{2: "if 0 1", 3: "if 0 1 else 2"}[len(n.Kids)]
	case api.EBool:
		return []string{"false", "true"}[n.Num]
	case api.ECut:
		return []string{"0 [ : ]", "0 [ 1 : ]", "0 [ : 1 ]", "0 [ 1 : 2 ]"}[n.Num]
	}
	return templates[n.Kind]
}

// tokensOf: the tokens of a sound tree.
func tokensOf(n api.Node) []string {
	switch n.Kind {
	case api.EInt:
		return []string{strconv.Itoa(n.Num)}
	case api.EStr:
		return []string{scan.Quote(n.Text)}
	}
	var out []string
	for _, word := range strings.Fields(templateOf(n)) {
		kids, some := kidsOf(n, word)
		switch {
		case word == "@":
			out = append(out, n.Text)
		case !some:
			out = append(out, word)
		}
		for i, kid := range kids {
			if i > 0 && strings.HasSuffix(word, ",,") {
				out = append(out, ",")
			}
			out = append(out, tokensOf(kid)...)
		}
	}
	return out
}

// kidsOf: the kids that a template's word stands for, if it stands for kids.
func kidsOf(n api.Node, word string) ([]api.Node, bool) {
	switch word[0] {
	case 'P':
		return n.Kids[:n.Num], true
	case 'R':
		return n.Kids[n.Num:], true
	case '0', '1', '2':
		from := int(word[0] - '0')
		if len(word) == 1 {
			return n.Kids[from : from+1], true
		}
		return n.Kids[from:], true
	}
	return nil, false
}

// laidOut: tokens as a text; of a token's own bytes none is told from others.
func laidOut(tokens []string) string {
	var out strings.Builder
	for i, token := range tokens {
		out.WriteString(token)
		if slices.Contains([]string{"{", "}", ";"}, token) {
			out.WriteString("\n")
		} else if i < len(tokens)-1 {
			out.WriteString(" ")
		}
	}
	return out.String()
}

// hold: Text answers as the templates do, and Parse of it the tree.
func hold(t *testing.T, n api.Node) bool {
	t.Helper()
	got, e := print.Text(n)
	if !parse.Sound(n) {
		if e != api.ErrForm || got != "" {
			t.Fatalf("Text of a tree that is not sound: %d, %s: %v", e, short(got), n)
		}
		return false
	}
	want := laidOut(tokensOf(n))
	if len(want) > api.MaxText {
		if e != api.ErrLarge || got != "" {
			t.Fatalf("Text of %d bytes: %d, %s", len(want), e, short(got))
		}
		return false
	}
	if e != api.OK || got != want {
		t.Fatalf("Text: %d, %q; want %q", e, got, want)
	}
	back, at, e := parse.Parse(got)
	if e == api.ErrLarge && len(tokensOf(n)) > api.MaxTokens {
		return true
	}
	if e != api.OK || !same(back, n) {
		t.Fatalf("Parse(%q): %d at %d, %v; want %v", got, e, at, back, n)
	}
	return true
}

// holdExpr: Expr answers as the templates do, and its text in a program is read as the tree.
func holdExpr(t *testing.T, n api.Node) {
	t.Helper()
	got, e := print.Expr(n)
	want := laidOut(tokensOf(n))
	if e != api.OK || got != want {
		t.Fatalf("Expr: %d, %q; want %q: %v", e, got, want, n)
	}
	back, at, e := parse.Parse("func f() { return " + got + "; }")
	if e != api.OK || !same(back, returns(n)) {
		t.Fatalf("Parse of a return of %q: %d at %d, %v; want %v", got, e, at, back, n)
	}
}

func TestTextPairs(t *testing.T) {
	count := 0
	pairs(func(n api.Node) {
		if !hold(t, n) {
			t.Fatalf("no text: %v", n)
		}
		count++
	})
	if count < 2000 {
		t.Errorf("%d pairs: the test tells little", count)
	}
}

func TestTextRandom(t *testing.T) {
	pick := rand.New(rand.NewSource(1))
	count := 0
	for i := range 3000 {
		if hold(t, randomTree(pick, "program", 5+i%120)) {
			count++
		}
	}
	if count < 2000 {
		t.Errorf("%d of 3000 trees have a text: the test tells little", count)
	}
}

// Every expression of a sound program is one that stands in one.
func TestExprRandom(t *testing.T) {
	pick := rand.New(rand.NewSource(2))
	for i := range 2000 {
		n := randomTree(pick, "program", 5+i%60)
		if !parse.Sound(n) {
			continue
		}
		for _, at := range nodes(&n) {
			if at.Kind >= api.EInt {
				holdExpr(t, *at)
			} else if s, e := print.Expr(*at); s != "" || e != api.ErrForm {
				t.Fatalf("Expr of no expression: %s, %d: %v", short(s), e, *at)
			}
		}
	}
}

var allKinds = []int{
	0, api.NProg, api.NStruct, api.NIface, api.NFunc, api.NMethod, api.NField, api.NSig, api.NParam, 9, api.TyName, api.TyPtr, api.TySlice, api.TyFunc, 14,
	api.SBlock, api.SVar, api.SDefine, api.SAssign, api.SExpr, api.SIf, api.SFor, api.SReturn, api.SBreak, api.SNext, 30,
	api.EInt, api.EStr, api.EBool, api.ENil, api.EName, api.ELit, api.EList, api.EFunc, api.ESel, api.EIndex, api.ECut, api.ECall, api.EUnary, api.EBinary, 54, -1, math.MaxInt, math.MinInt,
}

var someTexts = []string{"", "a", "_", "for", "nil", "1", "a b", "a;", "é", "-", "!", "&", "*", "+", "&&", "==", "=", ":=", ".", strings.Repeat("n", api.MaxName+1), strings.Repeat("s", api.MaxLen), strings.Repeat("s", api.MaxLen+1)}

var someNums = []int{0, 1, 2, 3, 4, -1, math.MaxInt, math.MinInt}

// spoil changes one node of a tree; which is sound then, or not.
func spoil(n *api.Node, pick *rand.Rand) {
	list := nodes(n)
	at, other := list[pick.Intn(len(list))], copied(*list[pick.Intn(len(list))])
	switch pick.Intn(6) {
	case 0:
		at.Kind = allKinds[pick.Intn(len(allKinds))]
	case 1:
		at.Text = someTexts[pick.Intn(len(someTexts))]
	case 2:
		at.Num = someNums[pick.Intn(len(someNums))]
	case 3:
		at.Kids = append(slices.Clone(at.Kids), other)
	case 4:
		if k := len(at.Kids); k > 0 {
			at.Kids = at.Kids[:k-1]
		}
	case 5:
		*at = other
	}
}

// R1, P3.1, P3.2: trees with changes; an expression with changes is told as a program that returns it.
func TestSpoilt(t *testing.T) {
	pick := rand.New(rand.NewSource(3))
	good, bad := 0, 0
	for i := range 12000 {
		n := randomTree(pick, "program", 3+i%40)
		spoil(&n, pick)
		hold(t, n)
		x := randomTree(pick, "expr", 2+i%20)
		spoil(&x, pick)
		hold(t, returns(x))
		if parse.Sound(returns(x)) {
			good++
			holdExpr(t, x)
			continue
		}
		bad++
		if s, e := print.Expr(x); s != "" || e != api.ErrForm {
			t.Fatalf("Expr: %d, %s: %v", e, short(s), x)
		}
	}
	if good < 1000 || bad < 1000 {
		t.Errorf("%d good, %d bad: the test tells little", good, bad)
	}
}

// P2: of every program's text, the tree's text has the same tree, and is its own text.
func FuzzText(f *testing.F) {
	for _, s := range goodTexts {
		f.Add(s)
	}
	f.Fuzz(func(t *testing.T, s string) {
		n, _, e := parse.Parse(s)
		if e != api.OK || !hold(t, n) {
			return
		}
		for _, at := range nodes(&n) {
			if at.Kind >= api.EInt && len(tokensOf(*at)) < 1000 {
				holdExpr(t, *at)
			}
		}
	})
}
