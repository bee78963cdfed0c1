package cases

func Interfaces() []Case {
	return []Case{
		{"var i I; print(i == nil); print(nil == i); print(i != nil); i = &S{4, nil}; print(i == nil); print(i.m(1)); i = &T{3, nil, nil, nil, \"\", true}; print(i.m(2)); i = nil; print(i == nil);", "true true false false 5 6 true", ""},
		{"var p *S; var i I = p; print(i == nil); print(i != nil); print(i.m(7)); print(p == nil);", "false true 7 true", ""},
		{"var p *S = nil; var i I = p; print(i == nil); p = nil; i = p; print(i == nil); q := &S{1, nil}; q = nil; i = q; print(i != nil);", "false false true", ""},
		{"var p *S; var q *S; var i I = p; var j I = q; print(i == j); j = &S{1, nil}; print(i == j); j = nil; print(i == j); i = nil; print(i == j);", "true false false true", ""},
		{"var p *S; var q *T; var i I = p; var j I = q; print(i == j); print(i != j);", "false true", ""},
		{"p := &S{1, nil}; var i I = p; var j I = p; print(i == j); j = &S{1, nil}; print(i == j); print(i != j); x := *p; j = &x; print(i == j);", "true false true false", ""},
		{"var u U = &E{}; var v U = &E{}; print(u == v); v = u; print(u == v); v = &S{1, nil}; print(u == v); u = nil; print(u == nil); print(v == nil);", "false true false true false", ""},
		{"f := func(i I) int { if i == nil { return -1; } return i.m(10); }; print(f(nil)); print(f(&S{1, nil})); var p *S; print(f(p));", "-1 11 10", ""},
		{"f := func(b bool) I { if b { return &S{1, nil}; } return nil; }; print(f(false) == nil); print(f(true) == nil); print(f(true).m(1)); g := func() I { var p *S; return p; }; print(g() == nil);", "true false 2 false", ""},
		{"f := func() (I, *S) { return nil, nil; }; i, p := f(); print(i == nil); print(p == nil); print(p.m(3)); i, p = f(); print(i == nil); i = p; print(i.m(4)); var j I; var k I; j, k = two2(); print(j == nil); print(k == nil);", "true true 3 true 4 true false", ""},
		{"x := S{1, nil}; var i I = &x; x.a = 5; print(i.m(1)); print(x.a); x = S{8, nil}; print(i.m(1));", "6 6 9", ""},
		{"t := T{1, nil, nil, nil, \"\", false}; print(t.i == nil); var p *S; t.i = p; print(t.i == nil); t.i = nil; print(t.i == nil); t = T{1, nil, nil, p, \"\", false}; print(t.i == nil);", "true false true false", ""},
		{"var i I = &S{1, nil}; i = nil; var p *S; i = p; print(i == nil); print(i.m(3)); i = nil; var j I; print(i == j); print(j == i); i = p; j = nil; print(i == j);", "false 3 true true false", ""},
		{"var i I; print(i.m(1));", "", "nil"}, {"i := face(nil, 1); i.m(2);", "1", "nil"}, {"var i I = &S{1, nil}; i = nil; i.m(2);", "", "nil"},
	}
}

func Functions() []Case {
	return []Case{
		{"x := 1; f := func(n int) int { x = x + n; return x; }; f(2); print(f(3)); x = 10; print(f(1));", "6 11", ""},
		{"x := 1; f := func() { x = x + 1; }; g := func() int { return x * 10; }; f(); f(); print(g()); print(x);", "30 3", ""},
		{"new := func() func() int { n := 0; return func() int { n = n + 1; return n; }; }; a := new(); b := new(); a(); a(); print(a()); print(b());", "3 1", ""},
		{"var l []func() int; i := 0; for i < 3 { j := i; l = append(l, func() int { j = j + 10; return j; }); i = i + 1; } print(l[0]()); print(l[2]()); print(l[0]()); print(l[1]());", "10 12 20 11", ""},
		{"var l []func() int; i := 0; for i < 3 { l = append(l, func() int { return i; }); i = i + 1; } print(l[0]());", "3", ""},
		{"f := func(n int) func() int { return func() int { n = n + 1; return n; }; }; a := f(1); b := f(1); a(); print(a()); print(b());", "3 2", ""},
		{"var f func(int) int; f = func(n int) int { if n < 2 { return 1; } return n * f(n - 1); }; print(f(10)); g := f; f = inc; print(g(3));", "3628800 9", ""},
		{"x := 1; f := func() int { return x; }; x := 5; print(f()); print(x);", "", "rejected"},
		{"x := 1; { f := func() int { return x; }; x := 2; print(f()); print(x); x = 3; print(f()); }", "1 2 1", ""},
		{"x := 1; { var x int = x + 1; print(x); x, y := 5, x; print(y); } print(x);", "", "rejected"},
		{"x := 1; { var x int = x + 1; print(x); { x, y := 5, x; print(y); print(x); } } print(x);", "2 2 5 1", ""},
		{"f := add; print(f(1, 2)); g := main; print(g == nil); print(f != nil); f = nil; print(f == nil); print(inc == nil);", "3 false true true false", ""},
		{"print(func(a int, b int) int { return a - b; }(5, 3)); f := func() func() func() int { return func() func() int { return func() int { return 9; }; }; }; print(f()()());", "2 9", ""},
		{"l := []func(int) int{inc}; print(l[0](4)); t := T{1, inc, nil, nil, \"\", true}; print(t.f(5)); p := &t; print(p.f(6)); t.f = func(n int) int { return n + t.n; }; t.n = 7; print(p.f(1));", "5 6 7 8", ""},
		{"inc := func(n int) int { return n - 1; }; print(inc(5)); { add := inc; print(add(5)); } print(add(1, 1));", "4 4 2", ""},
		{"print := func(n int) { panic(n); }; print(5);", "", "panic 5"},
		{"len := func(s string) int { return 77; }; print(len(\"a\")); append := inc; print(append(1)); { panic := inc; panic(3); } panic(4);", "77 2", "panic 4"},
		{"f := func(p *int) { *p = 4; }; x := 1; f(&x); print(x); g := func(n int) *int { return &n; }; a := g(1); b := g(1); *a = 5; print(*b); print(a == b);", "4 1 false", ""},
		{"a, b := two(1, 2); print(a); print(b); b, a = two(3, 4); print(a); print(b); x, y := two(b, a); print(x + y * 10); f := func() (int, int) { return two(8, 9); }; a, b = f(); print(b);", "1 2 4 3 43 9", ""},
	}
}

func RunsOffTheEnd() []Case {
	return []Case{
		{"f := func() (int, bool, string, *S, []int, I, func(), S) { panic := inc; panic(3); }; n, b, c, p, l, i, g, s := f(); print(n); print(b); print(len(c)); print(p == nil); print(l == nil); print(i == nil); print(g == nil); print(s.a); print(p.m(6));", "0 false 0 true true true true 0 6", ""},
		{"f := func(panic func(int)) int { if true { panic(1); } else { return 5; } }; print(say(3)); print(f(func(n int) { print(n + 1); return; }));", "3 3 2 0", ""},
	}
}
