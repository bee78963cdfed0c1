package walk_test

import (
	"strconv"
	"strings"
	"testing"

	"halyard/api"
	"halyard/walk"
)

// P6.1: everything is done from the left, and each thing once; which of two is looked at first; steps and ends.

func TestOrder(t *testing.T) {
	eachRest(t, []rest{
		{"x := say(1) + say(2) * say(3); print(x);", "1 2 3 7", ""},
		{"x := 1; f := func() int { x = 5; return 10; }; print(x + f()); print(f() + x); x = 1; print(x * f() + x);", "11 15 15", ""},
		{"print(say(1) < say(2)); print(say(2) == say(1));", "1 2 true 2 1 false", ""},
		{"print(yes(1) && no(2)); print(no(1) && yes(2)); print(no(1) || yes(2)); print(yes(1) || no(2)); print(yes(1) && yes(2)); print(no(1) || no(2));", "1 2 false 1 false 1 2 true 1 true 1 2 true 1 2 false", ""},
		{"print(true || 1 / 0 == 0); print(false && 1 / 0 == 0); print(false || 1 / 1 == 1); print(true && 1 / 0 == 0);", "true false true", "zero"},
		{"s := S{say(1), ptr(nil, 2)}; l := []int{say(3), say(4), say(5)}; print(l[2]); print(s.a);", "1 2 3 4 5 5 1", ""},
		{"print(list([]int{7, 8}, 1)[say(1)]); print(text(\"abc\", 1)[say(0)]);", "1 1 8 1 0 97", ""},
		{"print(len(list([]int{7, 8, 9}, 1)[say(1):say(2)])); print(text(\"abcd\", 1)[say(1):say(3)]);", "1 1 2 1 1 1 3 bc", ""},
		{"print(fun(inc, 1)(say(2))); print(add(say(3), say(4))); print(ptr(&S{1, nil}, 5).m(say(6))); print(face(&S{1, nil}, 7).m(say(8)));", "1 2 3 3 4 7 5 6 7 7 8 9", ""},
		{"f := inc; g := func() int { f = func(n int) int { return 0; }; return 5; }; print(f(g())); print(f(1));", "6 0", ""},
		{"p := &S{1, nil}; g := func() int { p = &S{10, nil}; return 1; }; print(p.m(g())); print(p.a); print(p.a + g() + p.a);", "2 10 21", ""},
		{"l := []int{1}; g := func() int { l = []int{5, 6}; return 0; }; print(l[g()]); print(l[g()]); x := S{1, nil}; h := func() int { x = S{7, nil}; return 0; }; print(x.a + h()); print(x.a);", "1 5 1 7", ""},
		{"l := []int{1, 2}; g := func() int { l = nil; return 1; }; print(l[g()]); l = []int{1, 2, 3}; print(len(l[g():]));", "2 2", ""},
		{"x, y := say(1), say(2); var z int = say(3); print(x + y + z); f := func() (int, int) { return say(4), say(5); }; f();", "1 2 3 6 4 5", ""},
		{"for yes(1) { break; } if no(2) { } else if yes(3) { print(4); } else if yes(5) { print(6); } if yes(7) { print(8); } else { print(9); }", "1 2 3 4 7 8", ""},
		{"i := 0; for i < say(2) { i = i + 1; }", "2 2 2", ""},
	})
}

func TestCallsOfNil(t *testing.T) {
	eachRest(t, []rest{
		{"var f func(int) int; f(say(1));", "1", "nil"}, {"var f func(); f();", "", "nil"}, {"fun(nil, 1)(say(2));", "1 2", "nil"}, {"var f func(int) int; f(1 / 0);", "", "zero"}, {"l := []func(int) int{nil}; l[0](say(1));", "1", "nil"},
		{"var t T; t.f(say(1));", "1", "nil"}, {"t := &T{1, nil, nil, nil, \"\", true}; t.f(say(1));", "1", "nil"}, {"var t *T; t.f(say(1));", "", "nil"},
		{"var i I; i.m(say(1));", "", "nil"}, {"var t T; t.i.m(say(1));", "", "nil"}, {"l := []I{nil}; l[0].m(say(1));", "", "nil"}, {"var p *S; print(p.m(say(1)));", "1 1", ""}, {"var p *S; var i I = p; print(i.m(say(1)));", "1 1", ""},
		{"var p *S; p.get();", "", "nil"}, {"var p *S; (*p).m(say(1));", "", "nil"}, {"var t *T; t.l[0].m(say(1));", "", "nil"}, {"var t *T; t.i.m(say(1));", "", "nil"}, {"var l []S; l[0].m(say(1));", "", "range"}, {"var t *T; t.m(say(1));", "1", "nil"},
		{"f := func(g func(), n int) { g(); }; f(nil, say(1));", "1", "nil"},
	})
}

func TestNilPointers(t *testing.T) {
	eachRest(t, []rest{
		{"var p *S; p.a = 1;", "", "nil"}, {"var p *S; print(p.a);", "", "nil"}, {"var p *S; x := *p;", "", "nil"}, {"var p *S; *p = S{1, nil};", "", "nil"}, {"var p *int; *p = 1;", "", "nil"}, {"var p *int; print(*p);", "", "nil"},
		{"var p *S; q := &p.a;", "", "nil"}, {"var p *S; q := &*p;", "", "nil"}, {"var p *int; q := &*p;", "", "nil"}, {"var p **S; print((*p).a);", "", "nil"}, {"p := &S{1, nil}; print(p.b.a);", "", "nil"}, {"p := &S{1, nil}; p.b.a = 1;", "", "nil"},
		{"p := &S{1, nil}; q := &p.b; print(*q == nil); *q = p; print(p.b.b.a);", "true 1", ""}, {"var p *S; q := &p; print(**q == **q);", "", "rejected"}, {"var p *S; q := &p; x := **q;", "", "nil"},
		{"p := &S{1, nil}; p.a, p.b.a = 2, 3;", "", "nil"}, {"var l []*S; l = append(l, nil); l[0].a = 1;", "", "nil"}, {"ptr(nil, 1).a = say(2);", "1", "nil"}, {"*ptr(nil, 1) = S{say(2), nil};", "1", "nil"},
	})
}

func TestAssign(t *testing.T) {
	eachRest(t, []rest{
		{"a, b := 1, 2; a, b = b, a; print(a); print(b); a, b = b, a + b; print(a); print(b);", "2 1 1 3", ""},
		{"ptr(&S{1, nil}, 1).a, list([]int{1}, 2)[say(0)], ptr(&S{1, nil}, 3).b = say(4), say(5), ptr(nil, 6);", "1 2 0 3 4 5 6", ""},
		{"list(nil, 1)[say(0)] = say(2);", "1 0", "range"}, {"list([]int{1}, 1)[say(1)], ptr(nil, 2).a = say(3), say(4);", "1 1", "range"}, {"ptr(nil, 2).a, list([]int{1}, 1)[say(1)] = say(3), say(4);", "2", "nil"},
		{"x := 1; l := []int{1}; x, l[say(0)] = 5, 1 / 0; print(x);", "0", "zero"}, {"l := []int{1}; x := 1; f := func() int { print(x); return 1 / 0; }; x, l[0] = 5, f();", "1", "zero"},
		{"l := []int{1, 2}; l[0], l[0] = 3, 4; print(l[0]); i := 0; i, l[i] = 1, 9; print(l[0]); print(l[1]); print(i); l[i], i = 7, 0; print(l[1]);", "4 9 2 1 7", ""},
		{"l := []int{1, 2}; l, l[0] = nil, 5; print(l == nil); l = []int{1, 2}; m := l; l[0], l = 8, nil; print(m[0]);", "true 8", ""},
		{"p := &S{1, nil}; q := p; p, p.a = nil, 5; print(q.a); print(p == nil); p = q; p.a, p = 6, nil; print(q.a); x := 1; r := &x; *r, r = 2, nil; print(x); y := 3; r = &x; r, *r = &y, 8; print(x); print(y);", "5 true 6 2 8 3", ""},
		{"x := S{1, nil}; x.a, x = 5, S{6, nil}; print(x.a); x, x.a = S{6, nil}, 5; print(x.a); l := []S{S{1, nil}}; l[0], l[0].a = S{2, nil}, 3; print(l[0].a); l[0].a, l[0] = 3, S{2, nil}; print(l[0].a);", "6 5 3 2", ""},
		{"a, b := 1, 2; a, b = two(b, a); print(a); print(b); l := []int{0, 0}; l[1], l[0] = two(3, 4); print(l[0]); p := &S{1, nil}; p.a, l[say(0)] = two(say(5), say(6)); print(p.a); print(l[0]);", "2 1 4 0 5 6 5 6", ""},
		{"list(nil, 1)[0], ptr(nil, 2).a = two(say(3), say(4));", "1", "range"},
		{"i := 0; f := func() int { i = i + 1; return i; }; l := []int{0, 0, 0, 0}; l[f()], l[f()] = f() * 10, l[1]; print(l[1]); print(l[2]); print(i);", "30 0 3", ""},
		{"s := []S{S{1, nil}, S{2, nil}}; i := 0; s[i].a, i = 9, 1; print(s[0].a); print(s[1].a); s[i] = s[0]; print(s[1].a); s[1].a = 4; print(s[0].a);", "9 2 9 9", ""},
		{"var i I; var p *S; i, p = &S{1, nil}, &S{2, nil}; print(i.m(0)); i, p = p, nil; print(i.m(0)); print(p == nil); i, p = nil, nil; print(i == nil);", "1 2 true true", ""},
	})
}

func TestStatements(t *testing.T) {
	eachRest(t, []rest{
		{"i := 0; for true { i = i + 1; if i == 2 { continue; } if i == 5 { break; } print(i); } print(i);", "1 3 4 5", ""},
		{"i := 0; for { i = i + 1; { if i < 3 { continue; } } j := 0; for j < 5 { j = j + 1; if j == 2 { continue; } if j > 3 { break; } print(j); } if i > 3 { break; } } print(i);", "1 3 1 3 4", ""},
		{"f := func() int { for { for { return 7; } } }; print(f()); g := func(n int) int { if n > 0 { { return 1; } } else if n == 0 { return 0; } return -1; }; print(g(5)); print(g(0)); print(g(-5)); return; print(9);", "7 1 0 -1", ""},
		{"for false { print(1); } if false { print(2); } if true { } else { print(3); } { } { { print(4); } }", "4", ""},
		{"x := 1; { x := 2; x = 3; print(x); } print(x); for x < 3 { x := x + 5; print(x); break; } if x == 1 { x := 9; print(x); } else { } print(x);", "3 1 6 9 1", ""},
		{"i := 0; for i < 3 { x := 0; x = x + 1; print(x); i = i + x; }", "1 1 1", ""},
		{"f := func(n int) { if n == 0 { return; } print(n); }; f(0); f(1);", "1", ""},
		{"i := 0; for i < 2 { i = i + 1; f := func() { for { break; } }; f(); print(i); }", "1 2", ""},
		{"panic(7);", "", "panic 7"}, {"panic(0);", "", "panic 0"}, {"panic(-1);", "", "panic -1"}, {"print(1); panic(say(2) * 3); print(4);", "1 2", "panic 6"}, {"panic(-9223372036854775807 - 1);", "", "panic -9223372036854775808"}, {"panic(1 / 0);", "", "zero"},
		{"f := func() int { panic(3); }; print(f());", "", "panic 3"}, {"for { if true { panic(4); } }", "", "panic 4"},
	})
}

func TestSame(t *testing.T) {
	eachRest(t, []rest{
		{"x := 1; y := 1; print(&x == &x); print(&x == &y); print(&x != &y); p := &x; q := p; print(p == q); q = &y; print(p == q); print(p == nil); print(nil != p);", "true false true true false false true", ""},
		{"x := S{1, nil}; print(&x == &x); print(&x.a == &x.a); y := x; print(&x == &y); print(&x.a == &y.a); p := &x; print(p == &x); print(&p.a == &x.a); print(&*p == p); x = y; print(p == &x);", "true true false false true true true true", ""},
		{"l := []int{1, 2}; m := l; n := l[1:]; print(&l[0] == &m[0]); print(&l[1] == &n[0]); print(&l[0] == &l[1]); l = append(l, 3); print(&l[0] == &m[0]);", "true true false false", ""},
		{"l := []S{S{1, nil}, S{1, nil}}; print(&l[0] == &l[0]); print(&l[0] == &l[1]); print(&l[0].a == &l[1].a); e := []E{E{}, E{}}; print(&e[0] == &e[1]); print(&e[1] == &e[1:][0]);", "true false false false true", ""},
		{"print(&S{1, nil} == &S{1, nil}); print(&E{} == &E{}); f := func() *E { var e E; return &e; }; print(f() == f()); g := func(e E) *E { return &e; }; print(g(E{}) == g(E{}));", "false false false false", ""},
		{"var p *S; var q *S; print(p == q); print(p == nil); q = &S{1, nil}; print(p == q); q = nil; print(q == p); var pp **S; print(pp == nil); pp = &p; print(pp == nil); print(*pp == nil);", "true true false true true false true", ""},
		{"var i I = &S{1, nil}; j := i; print(i == j); print(i != j); j.m(4); print(i == j); x := S{1, nil}; i = &x; j = &x; print(i == j); x = S{2, nil}; print(i == j);", "true false true true true", ""},
	})
}

func TestPrint(t *testing.T) {
	src := `func main() { print(0); print(-1); print(9223372036854775807); print(-9223372036854775807 - 1); print(true); print(false); print(""); print("a\nb"); print("\x00\xff\t"); }`
	const want = "0\n-1\n9223372036854775807\n-9223372036854775808\ntrue\nfalse\n\na\nb\n\x00\xff\t\n"
	if r := walk.Run(parsed(t, src), 100); string(r.Out) != want || r.End != api.Exit || r.Steps != 10 {
		t.Errorf("%s", told(r))
	}
}

func TestOutFull(t *testing.T) {
	// A line has 1024 bytes, so that 16 of them are MaxOut.
	line := strings.Repeat("x", 1023)
	lines := strings.Repeat("print(s); ", api.MaxOut/1024)
	for last, want := range map[string]api.Report{
		"":                         {End: api.Exit, Steps: 18, Out: []byte(strings.Repeat(line+"\n", 16))},
		"print(\"\");":             {End: api.OutFull, Steps: 19},
		"print(1);":                {End: api.OutFull, Steps: 19},
		"print(1 / 0);":            {End: api.Trapped, Trap: api.TrapZero, Steps: 19},
		"panic(3);":                {End: api.Trapped, Trap: api.TrapPanic, Value: 3, Steps: 19},
		"t := s; print(t);":        {End: api.OutFull, Steps: 20},
		"for { print(true); }":     {End: api.OutFull, Steps: 21},
		"return; print(\"more\");": {End: api.Exit, Steps: 19},
	} {
		r := walk.Run(parsed(t, "func main() { s := \""+line+"\"; "+lines+last+" }"), 1000)
		want.Out = []byte(strings.Repeat(line+"\n", 16))
		if told(r) != told(want) {
			t.Errorf("%s: %s", last, told(r)[:80])
		}
	}
	for spare, end := range map[int]int{3: api.Exit, 2: api.OutFull, 1: api.OutFull, 0: api.OutFull} {
		src := "func main() { s := \"" + line + "\"; " + strings.Repeat("print(s); ", 15) + "print(s[" + strconv.Itoa(spare) + ":]); print(12); }"
		want := (strings.Repeat(line+"\n", 15) + line[spare:] + "\n12\n")[:api.MaxOut]
		if r := walk.Run(parsed(t, src), 1000); r.End != end || string(r.Out) != want || r.Steps != 19 {
			t.Errorf("%d bytes to spare: %d, %d bytes, %q", spare, r.End, len(r.Out), r.Out[len(r.Out)-5:])
		}
	}
}

func TestSteps(t *testing.T) {
	const around = "type S struct { a int; } func (s *S) m() { } type I interface { m(); } func f() { } func g(n int) int { return n; } func main() { "
	for src, want := range map[string]int{
		"": 1, "{ }": 1, "{ { } { } }": 1, "print(1);": 2, "print(1); print(2);": 3, "{ print(1); { print(2); } }": 3, "var x int;": 2, "var x int = 1;": 2, "x := 1;": 2, "x, y := 1, 2;": 2, "x := 1; x = 2;": 3, "x := 1; x, x = 2, 3;": 3, "return;": 2, "return; print(1);": 2,
		"f();": 3, "f(); { f(); }": 5, "g(1);": 4, "x := g(1);": 4, "x := g(g(g(1)));": 8, "x := g(1) + g(2);": 6, "g(len(\"a\"));": 4, "x := append([]int{}, 1); print(len(x));": 3,
		"if true { }": 2, "if false { }": 2, "if true { print(1); } else { }": 3, "if false { print(1); } else { }": 2, "if false { } else { print(1); }": 3, "if false { } else if true { }": 3, "if false { } else if false { } else if true { print(1); }": 5, "if true { } else if true { }": 2, "if g(1) == 1 { }": 4,
		"for false { }": 3, "for { break; }": 4, "for { print(1); break; }": 5, "for true { break; }": 4, "i := 0; for i < 2 { i = i + 1; }": 8, "i := 0; for i < 2 { i = i + 1; continue; }": 10, "i := 0; for { i = i + 1; if i == 3 { break; } }": 13, "i := 0; for g(i) < 1 { i = i + 1; }": 10,
		"x := func() { };": 2, "x := func() { }; x();": 4, "func() { }();": 3, "func() { print(1); }();": 4, "x := f; x();": 4, "s := S{1}; s.m();": 4, "s := &S{1}; s.m(); s.m();": 6, "var i I = &S{1}; i.m();": 4, "x := []S{S{1}}; x[0].m();": 4,
		"panic(1);": 2, "panic(g(1));": 4, "var x func(); x();": 3, "var i I; i.m();": 3, "var x func(int); x(g(1));": 5, "x := 1 / 0;": 2, "print(g(1) / g(0));": 6, "var l []int; l[g(0)] = g(1);": 5, "for 1 / 0 == 0 { }": 3, "if 1 / 0 == 0 { }": 2,
	} {
		if r := walk.Run(parsed(t, around+src+" }"), 1000); r.Steps != want || r.End != api.Exit && r.End != api.Trapped {
			t.Errorf("%s: %s; want %d", src, told(r), want)
		}
	}
}

// With each fuel up to what a run needs and beyond it: what was done till there.
func TestFuel(t *testing.T) {
	for _, c := range []rest{
		{"", "", ""}, {"print(1); print(2);", "", ""}, {"i := 0; for i < 3 { print(i); i = inc(i); }", "", ""}, {"print(add(say(1), say(2))); panic(3);", "", "panic 3"}, {"x := S{1, nil}; print(x.m(say(4))); var i I; i.m(1);", "", "nil"},
		{"f := func(n int) { if n > 2 { print(n); } else if n > 1 { return; } else { { print(0); } } }; f(1); f(2); f(3); var g func(); g();", "", "nil"},
	} {
		n := parsed(t, head+"func main() { "+c.src+" }")
		whole := walk.Run(n, api.MaxFuel)
		if endOf(whole) != c.end {
			t.Fatalf("%s: %s", c.src, told(whole))
		}
		last := ""
		for fuel := range whole.Steps {
			r := walk.Run(n, fuel)
			if endOf(r) != "fuel" || r.Steps != fuel || !strings.HasPrefix(string(r.Out), last) || !strings.HasPrefix(string(whole.Out), string(r.Out)) {
				t.Errorf("%s, fuel %d: %s", c.src, fuel, told(r))
			}
			last = string(r.Out)
		}
		for _, fuel := range []int{whole.Steps, whole.Steps + 1, api.MaxFuel, api.MaxFuel + 1, 1<<63 - 1} {
			if r := walk.Run(n, fuel); told(r) != told(whole) {
				t.Errorf("%s, fuel %d: %s", c.src, fuel, told(r))
			}
		}
	}
}

func TestMostFuel(t *testing.T) {
	for _, src := range []string{"func main() { for { } }", "func main() { for true { } }", "func f() { } func main() { for { f(); } }"} {
		n := parsed(t, src)
		for fuel, want := range map[int]int{0: 0, 1: 1, 5: 5, api.MaxFuel - 1: api.MaxFuel - 1, api.MaxFuel: api.MaxFuel, api.MaxFuel + 1: api.MaxFuel, 1<<63 - 1: api.MaxFuel} {
			if r := walk.Run(n, fuel); told(r) != told(api.Report{End: api.NoFuel, Steps: want}) {
				t.Errorf("%s, fuel %d: %s", src, fuel, told(r))
			}
		}
	}
}

func TestStack(t *testing.T) {
	const calls = "func f(n int) int { if n == 0 { return 0; } return f(n - 1); } "
	for n, want := range map[int]api.Report{
		// Each call but the last one has three steps: itself, the if and the return; the last one's return stands in the if.
		998: {End: api.Exit, Steps: 2 + 998*3 + 3, Out: []byte("0\n")},
		999: {End: api.NoStack, Steps: 2 + 999*3 + 1},
	} {
		if r := walk.Run(parsed(t, calls+"func main() { print(f("+strconv.Itoa(n)+")); }"), api.MaxFuel); told(r) != told(want) {
			t.Errorf("%d: %s", n, told(r))
		}
	}
	for src, steps := range map[string]int{
		"func main() { main(); }":                                                       2001,
		"func f() { main(); } func main() { f(); }":                                     2001,
		"func main() { { main(); } }":                                                   2001,
		"func main() { print(1 / 1); main(); }":                                         3001,
		"func main() { f := main; f(); }":                                               3001,
		"func main() { var f func(); f = func() { f(); }; f(); }":                       2003,
		"type S struct { } func (s *S) m() { s.m(); } func main() { var s *S; s.m(); }": 2002,
		"type I interface { m(i I); } type S struct { } func (s *S) m(i I) { i.m(i); } func main() { var s *S; s.m(s); }": 2002,
		"func f(n int) int { return f(n); } func main() { x := 1 + f(f(2)); }":                                            2001,
		"type S struct { } func (s *S) m() func() { return func() { s.m()(); }; } func main() { var s *S; s.m()(); }":     2 + 4*999 + 2,
	} {
		n := parsed(t, src)
		r := walk.Run(n, api.MaxFuel)
		if r.End != api.NoStack {
			t.Errorf("%s: %s", src, told(r)[:60])
		}
		if r.Steps != steps {
			t.Errorf("%s: %d steps; want %d", src, r.Steps, steps)
		}
		// The step comes first: without fuel for it, the stack is not looked at.
		if r := walk.Run(n, steps-1); r.End != api.NoFuel || r.Steps != steps-1 {
			t.Errorf("%s, one step less: %d, %d", src, r.End, r.Steps)
		}
		if r := walk.Run(n, steps); r.End != api.NoStack || r.Steps != steps {
			t.Errorf("%s, just the steps: %d, %d", src, r.End, r.Steps)
		}
	}
}

// Calls that have ended are within no other one.
func TestStackComesDown(t *testing.T) {
	for _, src := range []string{
		"func f(n int) int { return n; } func main() { i := 0; for i < 3000 { i = i + f(1); } print(i); }",
		"func f(n int) int { if n == 0 { return 0; } return f(n - 1); } func main() { i := 0; for i < 3 { print(f(998)); i = i + 1; } print(f(998)); }",
		"type S struct { } func (s *S) m() { } func main() { i := 0; for i < 3000 { s := S{}; s.m(); func() { return; }(); i = i + 1; } }",
		"func f(n int) int { for { if n > 0 { return 1; } break; } return f(n + 1); } func main() { i := 0; for i < 2000 { f(i % 2); i = i + 1; } }",
	} {
		if r := walk.Run(parsed(t, src), api.MaxFuel); r.End != api.Exit {
			t.Errorf("%s: %s", src, told(r))
		}
	}
}
