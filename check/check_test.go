package check_test

import (
	"testing"

	"halyard/api"
	"halyard/check"
	"halyard/parse"
)

// P5.2: each rule, kept and broken alone.

func parsed(t testing.TB, src string) api.Node {
	t.Helper()
	n, at, e := parse.Parse(src)
	if e != api.OK {
		t.Fatalf("Parse: %d at %d of %q", e, at, src)
	}
	return n
}

func checks(t testing.TB, src string, want api.Errno) {
	t.Helper()
	if got := check.Check(parsed(t, src)); got != want {
		t.Errorf("Check: %d; want %d: %s", got, want, src)
	}
}

// rule: what keeps it, and what breaks it alone.
type rule struct {
	name       string
	keep, fail []string
}

func eachRule(t *testing.T, list []rule, around func(string) string) {
	for _, r := range list {
		t.Run(r.name, func(t *testing.T) {
			for _, s := range r.keep {
				checks(t, around(s), api.OK)
			}
			for _, s := range r.fail {
				checks(t, around(s), api.ErrType)
			}
		})
	}
}

// head declares types and functions for what stands in main.
const head = `
type S struct { a int; }
type T struct { n int; s *S; l []int; h func(int) int; }
type E struct { }
type I interface { M(); }
type J interface { M(); N(x int) bool; }
type U interface { }
func (s *S) M() { }
func (t *T) M() { }
func (t *T) N(x int) bool { return x > 0; }
func (t *T) get() (int, bool) { return t.n, true; }
func none() { }
func one(n int) int { return n; }
func two() (int, bool) { return 1, true; }
func three(n int) (int, string, *S) { return n, "", nil; }
func mkS() S { return S{1}; }
func ptrS() *S { return &S{1}; }
func mkI() I { return &S{1}; }
func mkL() []int { return nil; }
func mkF() func(int) int { return one; }
func takeI(i I, n int) { }
`

// variables of each type, which stand in main around what is checked.
const variables = `
var n int; var b bool; var s string; var st S; var p *S; var pp **S; var l []int; var ls []S; var lp []*S; var ll [][]int;
var i I; var j J; var u U; var f func(); var g func(int) int; var t T; var pt *T; var pi *I; var pn *int; var e E;
`

func inMain(s string) string { return head + "func main() {" + variables + "{" + s + "} }" }

func whole(s string) string { return s }

func TestDeclarations(t *testing.T) {
	const main = " func main() { }"
	eachRule(t, []rule{
		{"main", []string{"func main(){}", "func f(){} func main(){ return; }", "type main struct { } func main(){}", "func main(){ main(); }"},
			[]string{"", "func f(){}", "func Main(){}", "func main(a int){}", "func main() int { return 1; }", "func main() (int, int) { return 1, 1; }", "func main(a int) int { return a; }",
				"type main struct { }", "type S struct { } func (s *S) main(){}"}},
		{"functions' names", []string{"func f(){} func g(){}" + main, "func F(){} func f(){}" + main, "func int(){}" + main, "func _(){}" + main, "func Print(){}" + main},
			[]string{"func f(){} func f(){}" + main, "func f(){} func g(){} func f(a int) int { return a; }" + main, main + main,
				"func print(){}" + main, "func panic(){}" + main, "func len(){}" + main, "func append(){}" + main, "func print(n int){}" + main}},
		{"types have names of their own", []string{"type f struct { } func f() f { return f{}; } func main() { f := f(); g := f; g = f{}; }", "type print struct { } func main(){ x := print{}; print(1); }",
			"type len interface { } func main(){ var len len; }", "type S struct { } func main() { var S S; S = S{}; }", "func main() { int := 1; var x int = int; }", "type f interface { f(); } func f(f f) { f.f(); }" + main},
			[]string{"func f(){} func main() { var x f; }", "func main() { x := 1; var y x; }", "type f struct { } func main() { f(); }", "type S struct { } func main() { x := S; }", "type f struct { } func main() { f.M(); }"}},
		{"methods", []string{"type S struct { } func (s *S) M() { }" + main, "func (s *S) M() { } type S struct { }" + main, "type S struct { } func (s *S) print() { } func (s *S) len() int { return 1; } func (s *S) S() { }" + main,
			"type S struct { } type T struct { } func (s *S) M() { } func (t *T) M() { }" + main, "type S struct { } func (s *S) M() { } func M() { }" + main},
			[]string{"func (s *S) M() { }" + main, "type I interface { } func (i *I) M() { }" + main, "func (i *int) M() { }" + main, "func S() { } func (s *S) M() { }" + main,
				"type S struct { } func (s *S) M() { } func (s *S) M() { }" + main, "type S struct { } func (s *S) M() { } func (t *S) M(n int) { }" + main, "type S struct { M int; } func (s *S) M() { }" + main}},
		{"tables", []string{"type S struct { a *S; b []S; c func(S) S; i I; } type I interface { M(s S) I; }" + main},
			[]string{"type S struct { } type S struct { }" + main, "type S struct { } type S interface { }" + main, "type int struct { }" + main, "type bool interface { }" + main, "type string struct { }" + main,
				"type S struct { a int; a int; }" + main, "type I interface { M(); M(); }" + main, "type S struct { a S; }" + main, "type S struct { a T; } type T struct { }" + main, "type S struct { a T; }" + main, "type I interface { M(t T); }" + main}},
		{"parameters", []string{"func f(a int, b int) { }" + main, "func f(a int) { } func g(a int) { }" + main, "func f(f int) { }" + main, "func f(print int, len int, main int) { }" + main, "type S struct { } func (s *S) M(a S, S int) { }" + main,
			"type I interface { M(a int, a int); }" + main, "func main() { x := func(main int, b int) { }; }", "func main() { var x func(int, int); }"},
			[]string{"func f(a int, a int) { }" + main, "func f(a int, b int, a bool) { }" + main, "type S struct { } func (s *S) M(s int) { }" + main, "type S struct { } func (s *S) M(a int, a int) { }" + main, "func main() { x := func(a int, a int) { }; }"}},
	}, whole)
}

func TestWritten(t *testing.T) {
	const main = " func main() { }"
	eachRule(t, []rule{
		{"of functions", []string{"func f(a S, b *S, c []I, d func(S) I) (S, I) { return a, nil; } type S struct { } type I interface { }" + main},
			[]string{"func f(a Z) { }" + main, "func f(a *Z) { }" + main, "func f() Z { for { } }" + main, "func f() (int, []Z) { for { } }" + main, "func f(a int, b func(int, Z)) { }" + main, "func f(a func() Z) { }" + main, "func f(f f) { }" + main}},
		{"of methods", []string{"type S struct { } func (s *S) M(a S) *S { return s; }" + main},
			[]string{"type S struct { } func (s *S) M(a Z) { }" + main, "type S struct { } func (s *S) M() Z { for { } }" + main}},
	}, whole)
	eachRule(t, []rule{
		{"of variables", []string{"var x S;", "var x **S;", "var x []func(S, I) E;", "var x func(); var y func(func()) func();"},
			[]string{"var x Z;", "var x *Z;", "var x []Z;", "var x [][]*Z;", "var x func(Z);", "var x func() Z;", "var x func(int, int) (int, Z);", "var x n;", "var x main;", "var x nil1;"}},
		{"of lists", []string{"x := []S{};", "x := []*I{};", "x := [][]int{};", "x := []func(){};"}, []string{"x := []Z{};", "x := []*Z{};", "x := []func(Z){};", "x := [][]Z{};"}},
		{"of literals", []string{"x := func(a S) I { return nil; };"}, []string{"x := func(a Z) { };", "x := func() Z { for { } };", "x := func(a int, b *Z) { };", "x := func(a func(Z)) { };"}},
	}, inMain)
}

func TestScopes(t *testing.T) {
	eachRule(t, []rule{
		{"innermost", []string{"n := true; b = n;", "n := true; { n := \"\"; s = n; } b = n;", "x := func(n bool) { b = n; };", "x := func(n bool) { n := s; s = n; };", "one := 1; n = one;", "g := one; n = g(one(1));",
			"{ x := 1; } x := true; b = x;", "if b { x := 1; } else { x := s; s = x; }", "for b { x := 1; } x := s;", "main(); main := 1; n = main;"},
			[]string{"n := true; n = 1;", "n := true; { n := \"\"; b = n; }", "{ x := 1; } n = x;", "if b { x := 1; } n = x;", "if b { x := 1; } else { n = x; }", "for { x := 1; } n = x;", "x := func(y int) { }; n = y;",
				"one := 1; n = one(1);", "x := func(n bool) { n = 1; };", "x := func(y int) { z := 1; }; n = z;", "y = 1;", "n = y;", "none1();"}},
		{"behind the statement", []string{"n := n; n = 1;", "n := s; s = n;", "var n bool = n == 1; b = n;", "n, s := s, n; s, n = 1, \"\";", "one := one(1); n = one;", "x := 1; { x := x; x = 1; }"},
			[]string{"x := x;", "var x int = x;", "x, y := 1, x;", "x := func() { x(); };", "var x func() = func() { x(); };", "x = 1; x := 1;", "n = x; x := 1;", "b := x; var x bool;", "{ n = x; } x := 1;"}},
		{"literals see what is around", []string{"x := 1; y := func() int { return x; }; n = y();", "x := func(a int) func() int { return func() int { return a + n; }; };", "var x func(); x = func() { x(); };"},
			[]string{"y := func() int { return x; }; x := 1;", "x := func(a int) { y := func() { z := 1; }; z = 1; };"}},
		{"two of one name", []string{"x := 1; { x := 2; { var x int; } }", "x := 1; y := func(x int) { x := 1; };", "var none int;", "x := func(x int) { };", "var main int;", "if b { x := 1; } else { x := 1; }"},
			[]string{"x := 1; x := 1;", "var x int; var x int;", "x := 1; var x bool;", "var x int; x := true;", "x, x := 1, 2;", "x, y, x := 1, 2, 3;", "x, x := two();", "x := 1; x, y := 1, 2;", "x := 1; y, x := two();",
				"{ x := 1; x := 2; }", "if b { x := 1; x := 2; }", "if b { } else { x := 1; x := 2; }", "for { x := 1; x := 2; }", "y := func() { x := 1; x := 2; };", "x := 1; { } x := 2;"}},
		{"names that every program has", []string{"print := one; n = print(1);", "print := 1; n = print;", "len := 1; n = len;", "append := none; append();", "len := none; len();", "panic := one; n = panic(1);", "{ len := 1; } n = len(s);",
			"x := func(print func(bool)) { print(true); };", "x := func(len func(int) int) int { return len(1); };", "append := func(a bool) int { return 1; }; append(b);", "panic := 1; x := func() int { panic := one; return panic(1); };"},
			[]string{"x := print;", "x := panic;", "x := len;", "x := append;", "print = one;", "f = print;", "takeI(print, 1);", "x := &print;", "print.a = 1;", "x := print[0];", "b = len == nil;", "print := 1; print(1);", "len := 1; n = len(s);", "append := none; append(l, 1);", "panic := none; panic(1);",
				"x := func(print bool) { print(1); };", "{ x := one; } x(1);"}},
	}, inMain)
	checks(t, "func f(a int) bool { a := true; return a; } func main() { }", api.OK)
	checks(t, "func f(a int) bool { var a bool = a == 1; return a; } func main() { }", api.OK)
	checks(t, "type S struct { } func (s *S) M() int { s := 1; return s; } func main() { }", api.OK)
	checks(t, "func f(a int) { } func g() int { return a; } func main() { }", api.ErrType)
	checks(t, "func f() { x := 1; } func main() { x = 1; }", api.ErrType)
	checks(t, "type S struct { } func (s *S) M() { } func main() { s.M(); }", api.ErrType)
	checks(t, "func main() { g(); } func g() { f(); } func f() { g(); }", api.OK)
}

func TestStatements(t *testing.T) {
	eachRule(t, []rule{
		{"var", []string{"var x int;", "var x int = 1;", "var x I = p;", "var x I = &S{1};", "var x *S = nil;", "var x []int = nil;", "var x func() = nil;", "var x I = nil;", "var x U = p;", "var x J = pt;", "var x func(int) int = one;", "var x int = one(1);"},
			[]string{"var x int = true;", "var x int = nil;", "var x bool = nil;", "var x string = nil;", "var x S = nil;", "var x S = p;", "var x *S = st;", "var x I = st;", "var x I = j;", "var x J = i;", "var x J = p;", "var x U = i;", "var x I = pp;",
				"var x []I = lp;", "var x func() = one;", "var x int = none();", "var x int = two();", "var x I = pi;", "var x *I = p;", "var x *int = p;", "var x []int = ll;"}},
		{"define", []string{"x := 1;", "x, y := 1, true;", "x, y := two(); n = x; b = y;", "x, y, z := three(1); n = x; s = y; p = z;", "x := one(1);", "x, y := pt.get();", "x, y := one(1), one(2);", "x := []int{};", "x := none;", "x, y := func() (int, int) { return 1, 2; }();"},
			[]string{"x := nil;", "x, y := 1, nil;", "x, y := nil, 1;", "x, y := 1;", "x := 1, 2;", "x, y := 1, 2, 3;", "x := two();", "x := none();", "x := print(1);", "x := panic(1);", "x, y := three(1);", "x, y, z := two();", "x, y := one(1);", "x, y := none();",
				"x, y := two(), 1;", "x, y := 1, two();", "x, y := two(), two();", "x, y, z := two(), 1;", "x, y := two;", "x, y := (n);", "x, y := two(); b = x;", "x, y := two(); n = y;", "x, y := none(), none();"}},
		{"assign", []string{"n = 1;", "p.a = 1;", "st.a = 1;", "l[0] = 1;", "*p = st;", "*pn = 1;", "*pp = p;", "ls[0].a = 1;", "lp[0].a = 1;", "(*p).a = 1;", "ptrS().a = 1;", "*ptrS() = st;", "mkL()[0] = 1;", "pt.s.a = 1;", "pt.l[0] = 1;", "l[0], l[1] = l[1], l[0];", "n, b = two();", "n, n = 1, 2;",
			"i = p;", "i = nil;", "i, n = p, 1;", "g = one;", "t.h = one;", "n, s, u = three(1);", "n, s, i = three(1);", "*pi = p;", "[]int{1}[0] = 2;", "(&S{1}).a = 2;", "*&n = 1;", "ls[0] = mkS();"},
			[]string{"n = true;", "n = nil;", "n, b = 1;", "n = 1, 2;", "n, b = true, 1;", "n, b = b, n;", "b, n = two();", "n, b, s = two();", "n = two();", "n = none();", "n, b = two(), true;", "n, s, j = three(1);", "i = st;", "j = i;", "none = f;", "one = g;", "main = f;", "mkS().a = 1;", "S{1}.a = 1;", "s[0] = 1;", "\"a\"[0] = 1;",
				"n.a = 1;", "p.z = 1;", "st.M = f;", "p.M = f;", "i.M = f;", "*n = 1;", "*st = st;", "*p = p;", "pp.a = 1;", "l.a = 1;", "ls.a = 1;", "l[true] = 1;", "l[0] = true;", "n[0] = 1;", "p[0] = 1;", "mkS() .a, n = 1, 1;", "n, mkS().a = 1, 1;", "*nil = 1;", "nil.a = 1;", "*none() = 1;", "none().a = 1;", "two().a = 1;", "n, b = one(1);"}},
		{"expression", []string{"none();", "one(1);", "two();", "print(1);", "panic(1);", "p.M();", "func() { }();", "t.h(1);", "mkF()(1);", "len := one; len(1);", "append := two; append();"},
			[]string{"len(s);", "append(l, 1);", "len(l);", "one();", "n();", "nil();", "1();", "print();", "x();", "{ len := one; } len(s);"}},
		{"if", []string{"if b { }", "if true { } else { }", "if n < 1 { } else if b { } else { }", "if !b { } else if b { }", "if two == nil { }"}, []string{"if 1 { }", "if s { }", "if nil { }", "if p { }", "if none() { }", "if two() { }", "if b { } else if n { }", "if b { n = s; }", "if b { } else { n = s; }", "if b { } else if b { n = s; }", "if two { }"}},
		{"for", []string{"for { }", "for b { }", "for n < 1 { n = n + 1; }"}, []string{"for 1 { }", "for nil { }", "for s { }", "for none() { }", "for two() { }", "for { n = s; }", "for b { n = s; }"}},
		{"break and continue", []string{"for { break; }", "for { continue; }", "for b { break; continue; }", "for { if b { break; } else { continue; } }", "for { { break; } }", "for { for { } break; }", "x := func() { for { break; } };", "for { x := func() { for { continue; } }; break; }"},
			[]string{"break;", "continue;", "if b { break; }", "if b { continue; }", "{ break; }", "for { } break;", "for { } continue;", "for { x := func() { break; }; }", "for { x := func() { continue; }; }", "x := func() { break; };", "for func() bool { break; return b; }() { }", "for b { x := func() { if b { break; } }; }"}},
		{"return", []string{"return;", "x := func() int { return 1; };", "x := func() (int, bool) { return 1, true; };", "x := func() (int, bool) { return two(); };", "x := func() I { return p; };", "x := func() *S { return nil; };", "x := func() { return; };", "x := func() int { return one(1); };",
			"x := func() (int, string, I) { return three(1); };", "x := func() (I, U) { return p, p; };", "x := func() int { y := func() bool { return b; }; return 1; };"},
			[]string{"return 1;", "return none();", "return nil;", "return two();", "x := func() int { return; };", "x := func() int { return true; };", "x := func() int { return 1, 2; };", "x := func() int { return two(); };", "x := func() (int, bool) { return 1; };", "x := func() (int, bool) { return true, 1; };", "x := func() (bool, int) { return two(); };",
				"x := func() (int, bool) { return three(1); };", "x := func() (int, bool, int) { return two(), 1; };", "x := func() (int, bool) { return one(1); };", "x := func() (int, bool) { return two; };", "x := func() int { return none(); };", "x := func() J { return p; };", "x := func() { return 1; };", "x := func() int { y := func() bool { return 1; }; return 1; };", "x := func() bool { y := func() int { return 1; }; return 1; };", "x := func() (int, string, J) { return three(1); };", "x := func() int { return nil; };"}},
		{"block", []string{"{ }", "{ { n = 1; } }"}, []string{"{ n = s; }", "{ { n = s; } }", "{ } n = s;"}},
		{"ends", []string{"x := func() int { return 1; };", "x := func() int { panic(1); };", "x := func() int { for { } };", "x := func() int { if b { return 1; } else { return 2; } };", "x := func() { };", "x := func() int { { return 1; } };", "x := func() int { for { for { break; } } };", "x := func() int { return 1; return 2; };", "x := func() int { panic := one; panic(1); };", "x := func() { for { break; } };"},
			[]string{"x := func() int { };", "x := func() int { n = 1; };", "x := func() int { if b { return 1; } };", "x := func() int { for { break; } };", "x := func() int { for b { return 1; } };", "x := func() int { return 1; n = 1; };", "x := func() int { if b { return 1; } else { } };", "x := func() int { print(1); };", "x := func() int { { } };", "x := func() int { x := func() int { return 1; }; };", "x := func() (int, int) { };"}},
	}, inMain)
	checks(t, "func f() int { } func main() { }", api.ErrType)
	checks(t, "func f() int { return 1; } func main() { }", api.OK)
	checks(t, "type S struct { } func (s *S) M() int { if true { return 1; } } func main() { }", api.ErrType)
	checks(t, "type S struct { } func (s *S) M() int { if true { return 1; } else { panic(1); } } func main() { }", api.OK)
	checks(t, "type S struct { } func (s *S) M() int { return true; } func main() { }", api.ErrType)
	checks(t, "func f() { for { f(); } } func g() { break; } func main() { }", api.ErrType)
}

// The chapter's examples.
func TestExamples(t *testing.T) {
	in := func(s string) string {
		return "type S struct { a int; } type I interface { M(); } func (s *S) M() { } func f() (int, bool) { return 1, true; } func g(n int) { } func main() { " + s + " }"
	}
	eachRule(t, []rule{{"in main",
		[]string{"var x int = 1;", "x := 2; { x := x; print(x); }", "a, b := f();", "var s []S; s = append(s, S{1});", "s := []S{S{1}}; p := &s[0]; p.a = 3;", "var i I = &S{1}; i.M();", "for { break; }"},
		[]string{"x := nil;", "var x int = true;", "print(nil);", "x := 1; x = f;", "if 1 {}", "break;", "x := 1 + \"a\";", "x := S{};", "g(1, 2);"}}}, in)
	checks(t, "func f() int { for { break; } } func main() { }", api.ErrType)
	checks(t, "func f() int { if true { return 1; } } func main() { }", api.ErrType)
}
