package cases

func Order() []Case {
	return []Case{
		{"x := say(1) + say(2) * say(3); print(x);", "1 2 3 7", ""},
		{"x := 1; f := func() int { x = 5; return 10; }; print(x + f()); print(f() + x); x = 1; print(x * f() + x);", "11 15 15", ""},
		{"print(say(1) < say(2)); print(say(2) == say(1));", "1 2 true 2 1 false", ""},
		{"print(say(1) <= say(2)); print(say(1) > say(2)); print(say(1) >= say(2)); print(say(1) != say(2)); print(say(7) - say(2)); print(say(7) / say(2)); print(say(7) % say(2));", "1 2 true 1 2 false 1 2 false 1 2 true 7 2 5 7 2 3 7 2 1", ""},
		{`print(text("a", 1) < text("b", 2)); print(text("a", 1) <= text("b", 2)); print(text("a", 1) > text("b", 2)); print(text("a", 1) >= text("b", 2)); print(text("a", 1) == text("b", 2)); print(text("a", 1) != text("b", 2)); print(text("a", 1) + text("b", 2));`, "1 2 true 1 2 true 1 2 false 1 2 false 1 2 false 1 2 true 1 2 ab", ""},
		{"print(ptr(nil, 1) == ptr(nil, 2)); print(ptr(nil, 1) != ptr(nil, 2)); print(face(nil, 1) == face(nil, 2)); print(face(nil, 1) != face(nil, 2)); print(yes(1) == no(2)); print(yes(1) != no(2)); print(nil == ptr(nil, 1)); print(list(nil, 1) != nil);", "1 2 true 1 2 false 1 2 true 1 2 false 1 2 false 1 2 true 1 true 1 false", ""},
		{"print(yes(1) && no(2)); print(no(1) && yes(2)); print(no(1) || yes(2)); print(yes(1) || no(2)); print(yes(1) && yes(2)); print(no(1) || no(2));", "1 2 false 1 false 1 2 true 1 true 1 2 true 1 2 false", ""},
		{"print(true || 1 / 0 == 0); print(false && 1 / 0 == 0); print(false || 1 / 1 == 1); print(true && 1 / 0 == 0);", "true false true", "zero"},
		{"s := S{say(1), ptr(nil, 2)}; l := []int{say(3), say(4), say(5)}; print(l[2]); print(s.a);", "1 2 3 4 5 5 1", ""},
		{"print(list([]int{7, 8}, 1)[say(1)]); print(text(\"abc\", 1)[say(0)]);", "1 1 8 1 0 97", ""},
		{"print(len(list([]int{7, 8, 9}, 1)[say(1):say(2)])); print(text(\"abcd\", 1)[say(1):say(3)]);", "1 1 2 1 1 1 3 bc", ""},
		{"print(fun(inc, 1)(say(2))); print(add(say(3), say(4))); print(ptr(&S{1, nil}, 5).m(say(6))); print(face(&S{1, nil}, 7).m(say(8)));", "1 2 3 3 4 7 5 6 7 7 8 9", ""},
		{"f := inc; g := func() int { f = func(n int) int { return 0; }; return 5; }; print(f(g())); print(f(1));", "6 0", ""},
		{"p := &S{1, nil}; g := func() int { p = &S{10, nil}; return 1; }; print(p.m(g())); print(p.a); print(p.a + g() + p.a);", "2 10 21", ""},
		{"l := []int{1}; g := func() int { l = []int{5, 6}; return 0; }; print(l[g()]); print(l[g()]); x := S{1, nil}; h := func() int { x = S{7, nil}; return 0; }; print(x.a + h()); print(x.a);", "1 5 1 7", ""},
		{"l := []int{1, 2}; g := func() int { l = nil; return 1; }; print(l[g()]); l = []int{1, 2, 3}; print(len(l[g():]));", "2 2", ""},
		{"x, y := say(1), say(2); var z int = say(3); print(x + y + z); f := func() (int, int) { return say(4), say(5); }; f();", "1 2 3 6 4 5", ""},
		{"for yes(1) { break; } if no(2) { } else if yes(3) { print(4); } else if yes(5) { print(6); } if yes(7) { print(8); } else { print(9); }", "1 2 3 4 7 8", ""},
		{"i := 0; for i < say(2) { i = i + 1; }", "2 2 2", ""},
	}
}

func CallsOfNil() []Case {
	return []Case{
		{"var f func(int) int; f(say(1));", "1", "nil"}, {"var f func(); f();", "", "nil"}, {"fun(nil, 1)(say(2));", "1 2", "nil"}, {"var f func(int) int; f(1 / 0);", "", "zero"}, {"l := []func(int) int{nil}; l[0](say(1));", "1", "nil"},
		{"var t T; t.f(say(1));", "1", "nil"}, {"t := &T{1, nil, nil, nil, \"\", true}; t.f(say(1));", "1", "nil"}, {"var t *T; t.f(say(1));", "", "nil"},
		{"var i I; i.m(say(1));", "", "nil"}, {"var t T; t.i.m(say(1));", "", "nil"}, {"l := []I{nil}; l[0].m(say(1));", "", "nil"}, {"var p *S; print(p.m(say(1)));", "1 1", ""}, {"var p *S; var i I = p; print(i.m(say(1)));", "1 1", ""},
		{"var p *S; p.get();", "", "nil"}, {"var p *S; (*p).m(say(1));", "", "nil"}, {"var t *T; t.l[0].m(say(1));", "", "nil"}, {"var t *T; t.i.m(say(1));", "", "nil"}, {"var l []S; l[0].m(say(1));", "", "range"}, {"var t *T; t.m(say(1));", "1", "nil"},
		{"f := func(g func(), n int) { g(); }; f(nil, say(1));", "1", "nil"},
	}
}

func NilPointers() []Case {
	return []Case{
		{"var p *S; p.a = 1;", "", "nil"}, {"var p *S; print(p.a);", "", "nil"}, {"var p *S; x := *p;", "", "nil"}, {"var p *S; *p = S{1, nil};", "", "nil"}, {"var p *int; *p = 1;", "", "nil"}, {"var p *int; print(*p);", "", "nil"},
		{"var p *S; q := &p.a;", "", "nil"}, {"var p *S; q := &*p;", "", "nil"}, {"var p *int; q := &*p;", "", "nil"}, {"var p **S; print((*p).a);", "", "nil"}, {"p := &S{1, nil}; print(p.b.a);", "", "nil"}, {"p := &S{1, nil}; p.b.a = 1;", "", "nil"},
		{"p := &S{1, nil}; q := &p.b; print(*q == nil); *q = p; print(p.b.b.a);", "true 1", ""}, {"var p *S; q := &p; print(**q == **q);", "", "rejected"}, {"var p *S; q := &p; x := **q;", "", "nil"},
		{"var p *E; x := *p;", "", "nil"}, {"var p *E; var x E = *p;", "", "nil"}, {"var p *E; *p = E{};", "", "nil"}, {"var p *E; *&E{} = *p;", "", "nil"}, {"var p *E; l := []E{*p};", "", "nil"}, {"var p *E; l := append([]E{}, *p);", "", "nil"}, {"var p *E; f := func(e E, n int) { }; f(*p, say(1));", "", "nil"}, {"var p *E; f := func() E { return *p; }; f();", "", "nil"}, {"var p *E; q := &*p;", "", "nil"}, {"var p *E; x, y := *p, say(1);", "", "nil"},
		{"p := &S{1, nil}; p.a, p.b.a = 2, 3;", "", "nil"}, {"var l []*S; l = append(l, nil); l[0].a = 1;", "", "nil"}, {"ptr(nil, 1).a = say(2);", "1", "nil"}, {"*ptr(nil, 1) = S{say(2), nil};", "1", "nil"},
	}
}

func Assign() []Case {
	return []Case{
		{"a, b := 1, 2; a, b = b, a; print(a); print(b); a, b = b, a + b; print(a); print(b);", "2 1 1 3", ""},
		{"ptr(&S{1, nil}, 1).a, list([]int{1}, 2)[say(0)], ptr(&S{1, nil}, 3).b = say(4), say(5), ptr(nil, 6);", "1 2 0 3 4 5 6", ""},
		{"list(nil, 1)[say(0)] = say(2);", "1 0", "range"}, {"list([]int{1}, 1)[say(1)], ptr(nil, 2).a = say(3), say(4);", "1 1", "range"}, {"ptr(nil, 2).a, list([]int{1}, 1)[say(1)] = say(3), say(4);", "2", "nil"},
		{"x := 1; l := []int{1}; x, l[say(0)] = 5, 1 / 0; print(x);", "0", "zero"}, {"l := []int{1}; x := 1; f := func() int { print(x); return 1 / 0; }; x, l[0] = 5, f();", "1", "zero"},
		{"l := []int{1, 2}; l[0], l[0] = 3, 4; print(l[0]); i := 0; i, l[i] = 1, 9; print(l[0]); print(l[1]); print(i); l[i], i = 7, 0; print(l[1]);", "4 9 2 1 7", ""},
		{"l := []int{1, 2}; l, l[0] = nil, 5; print(l == nil); l = []int{1, 2}; m := l; l[0], l = 8, nil; print(m[0]);", "true 8", ""},
		{"p := &S{1, nil}; q := p; p, p.a = nil, 5; print(q.a); print(p == nil); p = q; p.a, p = 6, nil; print(q.a); x := 1; r := &x; *r, r = 2, nil; print(x); y := 3; r = &x; r, *r = &y, 8; print(x); print(y);", "5 true 6 2 8 3", ""},
		{"x := S{1, nil}; x.a, x = 5, S{6, nil}; print(x.a); x, x.a = S{6, nil}, 5; print(x.a); l := []S{S{1, nil}}; l[0], l[0].a = S{2, nil}, 3; print(l[0].a); l[0].a, l[0] = 3, S{2, nil}; print(l[0].a);", "6 5 3 2", ""},
		{"a, b := 1, 2; a, b = two(b, a); print(a); print(b); l := []int{0, 0}; l[1], l[0] = two(3, 4); print(l[0]); p := &S{1, nil}; p.a, l[say(0)] = two(say(5), say(6)); print(p.a); print(l[0]);", "2 1 4 0 5 6 5 6", ""},
		{"list(nil, 1)[0], ptr(nil, 2).a = two(say(3), say(4));", "1", "range"},
		{"i := 0; f := func() int { i = i + 1; return i; }; l := []int{0, 0, 0, 0}; l[f()], l[f()] = f() * 10, l[1]; print(l[1]); print(l[2]); print(i);", "30 0 3", ""},
		{"s := []S{S{1, nil}, S{2, nil}}; i := 0; s[i].a, i = 9, 1; print(s[0].a); print(s[1].a); s[i] = s[0]; print(s[1].a); s[1].a = 4; print(s[0].a);", "9 2 9 9", ""},
		{"var i I; var p *S; i, p = &S{1, nil}, &S{2, nil}; print(i.m(0)); i, p = p, nil; print(i.m(0)); print(p == nil); i, p = nil, nil; print(i == nil);", "1 2 true true", ""},
	}
}

func Statements() []Case {
	return []Case{
		{"i := 0; for true { i = i + 1; if i == 2 { continue; } if i == 5 { break; } print(i); } print(i);", "1 3 4 5", ""},
		{"i := 0; for { i = i + 1; { if i < 3 { continue; } } j := 0; for j < 5 { j = j + 1; if j == 2 { continue; } if j > 3 { break; } print(j); } if i > 3 { break; } } print(i);", "1 3 1 3 4", ""},
		{"f := func() int { for { for { return 7; } } }; print(f()); g := func(n int) int { if n > 0 { { return 1; } } else if n == 0 { return 0; } return -1; }; print(g(5)); print(g(0)); print(g(-5)); return; print(9);", "7 1 0 -1", ""},
		{"for false { print(1); } if false { print(2); } if true { } else { print(3); } { } { { print(4); } }", "4", ""},
		{"x := 1; { x := 2; x = 3; print(x); } print(x); for x < 3 { x := x + 5; print(x); break; } if x == 1 { x := 9; print(x); } else { } print(x);", "3 1 6 9 1", ""},
		{"i := 0; for i < 3 { x := 0; x = x + 1; print(x); i = i + x; }", "1 1 1", ""},
		{"f := func(n int) { if n == 0 { return; } print(n); }; f(0); f(1);", "1", ""},
		{"i := 0; for i < 2 { i = i + 1; f := func() { for { break; } }; f(); print(i); }", "1 2", ""},
		{"panic(7);", "", "panic 7"}, {"panic(0);", "", "panic 0"}, {"panic(-1);", "", "panic -1"}, {"print(1); panic(say(2) * 3); print(4);", "1 2", "panic 6"}, {"panic(-9223372036854775807 - 1);", "", "panic -9223372036854775808"}, {"panic(1 / 0);", "", "zero"},
		{"f := func() int { panic(3); }; print(f());", "", "panic 3"}, {"for { if true { panic(4); } }", "", "panic 4"},
	}
}

func Same() []Case {
	return []Case{
		{"x := 1; y := 1; print(&x == &x); print(&x == &y); print(&x != &y); p := &x; q := p; print(p == q); q = &y; print(p == q); print(p == nil); print(nil != p);", "true false true true false false true", ""},
		{"x := S{1, nil}; print(&x == &x); print(&x.a == &x.a); y := x; print(&x == &y); print(&x.a == &y.a); p := &x; print(p == &x); print(&p.a == &x.a); print(&*p == p); x = y; print(p == &x);", "true true false false true true true true", ""},
		{"l := []int{1, 2}; m := l; n := l[1:]; print(&l[0] == &m[0]); print(&l[1] == &n[0]); print(&l[0] == &l[1]); l = append(l, 3); print(&l[0] == &m[0]);", "true true false false", ""},
		{"l := []S{S{1, nil}, S{1, nil}}; print(&l[0] == &l[0]); print(&l[0] == &l[1]); print(&l[0].a == &l[1].a); e := []E{E{}, E{}}; print(&e[0] == &e[1]); print(&e[1] == &e[1:][0]);", "true false false false true", ""},
		{"print(&S{1, nil} == &S{1, nil}); print(&E{} == &E{}); f := func() *E { var e E; return &e; }; print(f() == f()); g := func(e E) *E { return &e; }; print(g(E{}) == g(E{}));", "false false false false", ""},
		{"var p *S; var q *S; print(p == q); print(p == nil); q = &S{1, nil}; print(p == q); q = nil; print(q == p); var pp **S; print(pp == nil); pp = &p; print(pp == nil); print(*pp == nil);", "true true false true true false true", ""},
		{"var i I = &S{1, nil}; j := i; print(i == j); print(i != j); j.m(4); print(i == j); x := S{1, nil}; i = &x; j = &x; print(i == j); x = S{2, nil}; print(i == j);", "true false true true true", ""},
	}
}
