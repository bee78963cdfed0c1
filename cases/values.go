package cases

func Numbers() []Case {
	const least = "(-9223372036854775807 - 1)"
	return []Case{
		{"print(1 + 2 * 3); print((1 + 2) * 3); print(10 - 3 - 2); print(-5); print(- -5);", "7 9 5 -5 5", ""},
		{"print(9223372036854775807 + 1);", "-9223372036854775808", ""},
		{"print(" + least + " - 1); print(-" + least + "); print(" + least + " * -1);", "9223372036854775807 -9223372036854775808 -9223372036854775808", ""},
		{"print(9223372036854775807 * 9223372036854775807); print(4294967296 * 4294967296); print(3037000500 * 3037000500);", "1 0 -9223372036709301616", ""},
		{"print(7 / 2); print(-7 / 2); print(7 / -2); print(-7 / -2);", "3 -3 -3 3", ""},
		{"print(7 % 2); print(-7 % 2); print(7 % -2); print(-7 % -2); print(6 % 3);", "1 -1 1 -1 0", ""},
		{"print(" + least + " / -1); print(" + least + " % -1); print(" + least + " / 1); print(" + least + " % 10);", "-9223372036854775808 0 -9223372036854775808 -8", ""},
		{"print(0 / 5); print(0 % 5); print(1 / 9223372036854775807);", "0 0 0", ""},
		{"print(1 / 0);", "", "zero"}, {"print(1 % 0);", "", "zero"}, {"print(0 / 0);", "", "zero"}, {"x := 0; x = " + least + " % x;", "", "zero"},
		{"print(1 < 2); print(2 < 2); print(2 <= 2); print(3 <= 2); print(3 > 2); print(2 > 2); print(2 >= 2); print(1 >= 2);", "true false true false true false true false", ""},
		{"print(" + least + " < 9223372036854775807); print(" + least + " > 0); print(-1 < 0); print(-1 >= 1);", "true false true false", ""},
		{"print(1 == 1); print(1 == 2); print(1 != 1); print(1 != 2);", "true false false true", ""},
		{"print(true == true); print(true == false); print(false != false); print(!true); print(!!true);", "true false false false true", ""},
	}
}

// Truths of every making are the same ones.
func Truths() []Case {
	return []Case{
		{"print((true || false) == true); print((false || true) == true); print((true && true) == true); print((true && false) == false); print((false && true) == false); print((false || false) == false); print(!false == true); print(!true == false);", "true true true true true true true true", ""},
		{"print((1 < 2) == true); print((1 <= 2) == true); print((2 > 1) == true); print((2 >= 1) == true); print((1 == 1) == true); print((1 != 2) == true); print((1 < 1) == false); print((2 <= 1) == false); print((1 > 1) == false); print((1 >= 2) == false); print((1 == 2) == false); print((1 != 1) == false);", "true true true true true true true true true true true true", ""},
		{`print(("a" < "b") == true); print(("a" < "ab") == true); print(("a" <= "a") == true); print(("b" > "a") == true); print(("b" >= "a") == true); print(("ab" == "ab") == true); print(("a" != "b") == true); print(("b" < "a") == false); print(("b" <= "a") == false); print(("a" > "ab") == false); print(("a" >= "b") == false); print(("a" == "b") == false); print(("a" == "ab") == false); print(("a" != "a") == false);`, "true true true true true true true true true true true true true true", ""},
		{"x := 1; p := &x; var l []int; var f func(); var i I; print((p == p) == true); print((p != p) == false); print((p == nil) == false); print((p != nil) == true); print((l == nil) == true); print((l != nil) == false); print((f == nil) == true); print((nil != f) == false); print((i == i) == true); print((i != nil) == false);", "true true true true true true true true true true", ""},
	}
}

func Texts() []Case {
	return []Case{
		{`print("a" + "b"); print("" + ""); print(len("")); print(len("abc")); print(len("\x00\xff"));`, "ab  0 3 2", ""},
		{`print("abc"[0]); print("abc"[2]); print("\xff"[0]); print("\x00"[0]);`, "97 99 255 0", ""},
		{`print("abc"[3]);`, "", "range"}, {`print("abc"[-1]);`, "", "range"}, {`print(""[0]);`, "", "range"}, {`print("abc"[9223372036854775807]);`, "", "range"},
		{`print("abc"[1:2]); print("abc"[1:]); print("abc"[:2]); print("abc"[:]); print("abc"[3:] + "x" + "abc"[0:0] + "abc"[:0]);`, "b bc ab abc x", ""},
		{`print("abc"[4:]);`, "", "range"}, {`print("abc"[:4]);`, "", "range"}, {`print("abc"[2:1]);`, "", "range"}, {`print("abc"[-1:]);`, "", "range"}, {`print("abc"[:-1]);`, "", "range"}, {`print("abc"[1:4]);`, "", "range"},
		{`print("abc"[3:3] + "x" + ""[0:0] + ""[:]);`, "x", ""}, {`print("abc"[4:4]);`, "", "range"}, {`print("abc"[-1:-1]);`, "", "range"}, {`print(""[1:1]);`, "", "range"}, {`print("abc"[0:2000]);`, "", "range"}, {`print("abc"[-2000:0]);`, "", "range"}, {`print("abc"[-9223372036854775807 - 1:-9223372036854775807 - 1]);`, "", "range"}, {`print("abc"[9223372036854775807:]);`, "", "range"},
		{`print("a" < "b"); print("a" < "a"); print("a" < "ab"); print("" < "a"); print("b" < "ab"); print("Z" < "a"); print("a" < "\xff"); print("\x7f" < "\x80");`, "true false true true false true true true", ""},
		{`print("a" <= "a"); print("b" <= "a"); print("b" > "a"); print("a" > "a"); print("a" >= "a"); print("a" >= "b");`, "true false true false true false", ""},
		{`print("ab" == "a" + "b"); print("ab" == "ba"); print("ab" != "ab"); print("" == ""); print("a" != "");`, "true false false true true", ""},
		{`s := "abc"; t := s; s = s + "d"; print(t); print(s); print(len(s[1:3]));`, "abc abcd 2", ""},
	}
}

func Boxes() []Case {
	return []Case{
		{"x := 1; p := &x; *p = 5; print(x); x = 6; print(*p);", "5 6", ""},
		{"x := 1; p := &x; q := &p; **q = 3; print(x); y := 4; *q = &y; print(*p); print(x);", "3 4 3", ""},
		{"s := []int{1, 2, 3}; p := &s[1]; *p = 9; print(s[1]); s[1] = 8; print(*p); s = append(s, 4); s[1] = 7; print(*p);", "9 8 8", ""},
		{"x := S{1, nil}; p := &x.a; *p = 5; print(x.a); x = S{6, nil}; print(*p); q := &x; *q = S{7, nil}; print(*p); print(x.a);", "5 6 7 7", ""},
		{"s := []S{S{1, nil}}; p := &s[0]; q := &s[0].a; s[0] = S{2, p}; print(p.a); print(*q); print(p.b == p); p.a = 3; print(s[0].a);", "2 2 true 3", ""},
		{"x := S{1, nil}; p := &x; x.b = p; p.b.b.b.a = 8; print(x.a);", "8", ""},
		{"p := &S{1, nil}; q := p; q.a = 2; print(p.a); p = &S{3, nil}; print(q.a);", "2 2", ""},
		{"var p *int; var q **int = &p; print(*q == nil); x := 4; *q = &x; print(*p);", "true 4", ""},
		{"x := 1; f := &x; { x := 2; x = 3; f = &x; } print(x); print(*f);", "1 3", ""},
		{"var i I; p := &i; *p = &S{4, nil}; print(i.m(1)); *p = nil; print(i == nil);", "5 true", ""},
		{"f := inc; p := &f; print((*p)(1)); *p = func(n int) int { return n * 10; }; print(f(2)); *p = nil; print(f == nil);", "2 20 true", ""},
		{"l := []int{1}; p := &l; *p = append(*p, 2); print(len(l)); print((*p)[1]); (*p)[0] = 5; print(l[0]); *p = nil; print(len(l));", "2 2 5 0", ""},
		{`c := "ab"; p := &c; *p = *p + "c"; print(c); z := true; q := &z; *q = !*q; print(z);`, "abc false", ""},
	}
}

func StructsAreCopied() []Case {
	return []Case{
		{"x := O{1}; y := x; y.n = 2; print(x.n); print(y.n); x = y; y.n = 3; print(x.n); l := []O{x}; l = append(l, y); l[0].n = 5; print(l[0].n); print(l[1].n); x, y = l[0], x; print(x.n); print(y.n); *&l[1] = x; print(l[1].n);", "1 2 2 5 3 5 2 5", ""},
		{"p := &S{1, nil}; q := *p; p.a = 2; print(q.a); q.a = 3; print(p.a);", "1 2", ""},
		{"x := S{1, nil}; y := x; y.a = 2; print(x.a); x = y; y.a = 3; print(x.a); x.a = 4; print(y.a);", "1 2 3", ""},
		{"x := S{1, nil}; var y S = x; x.a = 2; print(y.a);", "1", ""},
		{"x := S{1, nil}; f := func(y S) { y.a = 5; x.a = x.a + 1; print(y.a); }; f(x); print(x.a);", "5 2", ""},
		{"x := S{1, nil}; f := func() S { return x; }; y := f(); y.a = 7; print(x.a); z := f(); x.a = 8; print(z.a);", "1 1", ""},
		{"x := S{1, nil}; f := func() (S, S) { return x, x; }; y, z := f(); y.a = 7; print(z.a); y, z = f(); z.a = 3; print(y.a); print(x.a);", "1 1 1", ""},
		{"x := S{1, nil}; s := []S{x, x}; s[0].a = 2; print(s[1].a); print(x.a); x.a = 3; print(s[1].a);", "1 1 1", ""},
		{"x := S{1, nil}; s := append([]S{}, x); x.a = 2; print(s[0].a); s = append(s, x); x.a = 9; print(s[1].a); s[1].a = 4; print(x.a);", "1 2 9", ""},
		{"s := []S{S{1, nil}}; t := append(s, s[0]); t[0].a = 5; print(s[0].a); print(t[1].a); u := append(t, t[0]); u[0].a = 6; print(t[0].a);", "1 1 6", ""},
		{"s := []S{S{1, nil}, S{2, nil}}; t := s[0:1]; p := &s[1]; q := &s[1].a; t = append(t, S{3, nil}); print(p.a); print(*q);", "3 3", ""},
		{"x, y := S{1, nil}, S{2, nil}; x, y = y, x; print(x.a); print(y.a);", "2 1", ""},
		{"s := []S{S{1, nil}, S{2, nil}, S{3, nil}}; s[0], s[1], s[2] = s[2], s[0], s[1]; print(s[0].a); print(s[1].a); print(s[2].a);", "3 1 2", ""},
		{"x := S{1, nil}; f := func() int { x.a = 9; return 0; }; y, n := x, f(); print(y.a); print(n); print(x.a);", "1 0 9", ""},
		{"x := S{1, nil}; f := func() S { x.a = 9; return x; }; s := []S{x, f(), x}; print(s[0].a); print(s[1].a); print(s[2].a);", "1 9 9", ""},
		{"x := S{1, nil}; g := func(y S, n int) { print(y.a); }; f := func() int { x.a = 9; return 0; }; g(x, f());", "1", ""},
		{"x := S{1, nil}; p := &x; s := []S{x}; *p = s[0]; s[0].a = 4; print(x.a); s[0] = *p; p.a = 5; print(s[0].a);", "1 1", ""},
		{"x := S{1, nil}; x = x; print(x.a); p := &x; *p = *p; print(p.a);", "1 1", ""},
		{"x := E{}; y := x; print(&x == &y); print(&x == &x); p := &E{}; *p = y; print(p == &y);", "false true false", ""},
		{"p := &S{1, nil}; q := &S{2, p}; *p = *q; print(p.a); print(p.b == p); q.a = 3; print(p.a);", "2 true 2", ""},
	}
}

func StructsAreNotCopied() []Case {
	return []Case{
		{"x := S{1, nil}; print(x.m(2)); print(x.a);", "3 3", ""},
		{"s := []S{S{1, nil}}; print(s[0].m(2)); print(s[0].a); s[0].a = 7; print(s[0].get());", "3 3 7", ""},
		{"p := &S{1, nil}; print((*p).m(2)); print(p.a); (*p).a = 5; print(p.a); print((*p).get());", "3 3 5 5", ""},
		{"x := S{1, nil}; (&x).a = 4; print(x.a); print((&x).m(1)); print(x.a); y := &x; y.m(1); print(x.get());", "4 5 5 6", ""},
		{"x := T{2, inc, nil, nil, \"\", true}; print(x.f(5)); x.l = append(x.l, S{1, nil}); x.l[0].m(3); print(x.l[0].a); x.i = &x; print(x.i.m(4)); x.n = 3; print(x.i.m(4));", "6 4 8 12", ""},
		{"f := func() S { return S{3, nil}; }; print(f().a); print(S{4, nil}.a); print(T{1, inc, nil, nil, \"\", false}.f(8)); print((&S{5, nil}).m(1));", "3 4 9 6", ""},
		{"f := func() []S { return []S{S{1, nil}}; }; print(f()[0].m(1)); f()[0].a = 3; print(f()[0].a); p := &f()[0]; print(p.m(2));", "2 1 3", ""},
		{"x := S{1, nil}; f := func() int { x.a = 9; return 1; }; print(x.m(f())); print(x.a);", "10 10", ""},
	}
}

func Zero() []Case {
	return []Case{
		{"var n int; var b bool; var c string; var p *S; var l []int; var f func(); var i I; var u U; print(n); print(b); print(c); print(len(c)); print(p == nil); print(l == nil); print(f == nil); print(i == nil); print(u == nil);", "0 false  0 true true true true true", ""},
		{"var s S; print(s.a); print(s.b == nil); var t T; print(t.n); print(t.f == nil); print(t.l == nil); print(t.i == nil); print(len(t.c)); print(t.z); print(s.m(2)); print(t.m(5)); s.b = &s; print(s.b.a);", "0 true 0 true true true 0 false 2 0 2", ""},
		{"var s S; s.a = 1; var t S; print(t.a); f := func() int { var s S; s.a = s.a + 1; return s.a; }; f(); print(f()); i := 0; for i < 2 { var s S; s.a = s.a + 1; print(s.a); i = i + 1; }", "0 1 1 1", ""},
		{"var t T; t.l = append(t.l, S{1, nil}); var u T; print(len(u.l)); print(len(t.l)); u = t; print(u.l[0].a); u.l[0].a = 2; print(t.l[0].a);", "0 1 1 2", ""},
		{"var e E; var f E; print(&e == &f); print(&e == &e); var pp **S; print(pp == nil); var pi *I; print(pi == nil); var ll [][]S; print(ll == nil); var pf *func(int) int; print(pf == nil);", "false true true true true true", ""},
	}
}
