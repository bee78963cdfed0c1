package walk_test

import (
	"strconv"
	"strings"
	"testing"

	"halyard/api"
	"halyard/cases"
	"halyard/walk"
)

// P6.1: everything is done from the left, and each thing once; which of two is looked at first; steps and ends.

func TestOrder(t *testing.T) { eachCase(t, cases.Order()) }

func TestCallsOfNil(t *testing.T) { eachCase(t, cases.CallsOfNil()) }

func TestNilPointers(t *testing.T) { eachCase(t, cases.NilPointers()) }

func TestAssign(t *testing.T) { eachCase(t, cases.Assign()) }

func TestStatements(t *testing.T) { eachCase(t, cases.Statements()) }

func TestSame(t *testing.T) { eachCase(t, cases.Same()) }

func TestPrint(t *testing.T) {
	src := `func main() { print(0); print(-1); print(9223372036854775807); print(-9223372036854775807 - 1); print(true); print(false); print(""); print("a\nb"); print("\x00\xff\t"); }`
	const want = "0\n-1\n9223372036854775807\n-9223372036854775808\ntrue\nfalse\n\na\nb\n\x00\xff\t\n"
	if r := walk.Run(parsed(t, src), 100); string(r.Out) != want || r.End != api.Exit || r.Steps != 10 {
		t.Errorf("%s", told(r))
	}
}

func TestOutFull(t *testing.T) {
	// A line has 1024 bytes, so that 16 of them are MaxOut.
	line := strings.Repeat("x", 1023)
	lines := strings.Repeat("print(s); ", api.MaxOut/1024)
	for last, want := range map[string]api.Report{
		"":                         {End: api.Exit, Steps: 18, Out: []byte(strings.Repeat(line+"\n", 16))},
		"print(\"\");":             {End: api.OutFull, Steps: 19},
		"print(1);":                {End: api.OutFull, Steps: 19},
		"print(1 / 0);":            {End: api.Trapped, Trap: api.TrapZero, Steps: 19},
		"panic(3);":                {End: api.Trapped, Trap: api.TrapPanic, Value: 3, Steps: 19},
		"t := s; print(t);":        {End: api.OutFull, Steps: 20},
		"for { print(true); }":     {End: api.OutFull, Steps: 21},
		"return; print(\"more\");": {End: api.Exit, Steps: 19},
	} {
		r := walk.Run(parsed(t, "func main() { s := \""+line+"\"; "+lines+last+" }"), 1000)
		want.Out = []byte(strings.Repeat(line+"\n", 16))
		if told(r) != told(want) {
			t.Errorf("%s: %s", last, told(r)[:80])
		}
	}
	for spare, end := range map[int]int{3: api.Exit, 2: api.OutFull, 1: api.OutFull, 0: api.OutFull} {
		src := "func main() { s := \"" + line + "\"; " + strings.Repeat("print(s); ", 15) + "print(s[" + strconv.Itoa(spare) + ":]); print(12); }"
		want := (strings.Repeat(line+"\n", 15) + line[spare:] + "\n12\n")[:api.MaxOut]
		if r := walk.Run(parsed(t, src), 1000); r.End != end || string(r.Out) != want || r.Steps != 19 {
			t.Errorf("%d bytes to spare: %d, %d bytes, %q", spare, r.End, len(r.Out), r.Out[len(r.Out)-5:])
		}
	}
}

func TestSteps(t *testing.T) {
	const around = "type S struct { a int; } func (s *S) m() { } type I interface { m(); } func f() { } func g(n int) int { return n; } func main() { "
	for src, want := range map[string]int{
		"": 1, "{ }": 1, "{ { } { } }": 1, "print(1);": 2, "print(1); print(2);": 3, "{ print(1); { print(2); } }": 3, "var x int;": 2, "var x int = 1;": 2, "x := 1;": 2, "x, y := 1, 2;": 2, "x := 1; x = 2;": 3, "x := 1; x, x = 2, 3;": 3, "return;": 2, "return; print(1);": 2,
		"f();": 3, "f(); { f(); }": 5, "g(1);": 4, "x := g(1);": 4, "x := g(g(g(1)));": 8, "x := g(1) + g(2);": 6, "g(len(\"a\"));": 4, "x := append([]int{}, 1); print(len(x));": 3,
		"if true { }": 2, "if false { }": 2, "if true { print(1); } else { }": 3, "if false { print(1); } else { }": 2, "if false { } else { print(1); }": 3, "if false { } else if true { }": 3, "if false { } else if false { } else if true { print(1); }": 5, "if true { } else if true { }": 2, "if g(1) == 1 { }": 4,
		"for false { }": 3, "for { break; }": 4, "for { print(1); break; }": 5, "for true { break; }": 4, "i := 0; for i < 2 { i = i + 1; }": 8, "i := 0; for i < 2 { i = i + 1; continue; }": 10, "i := 0; for { i = i + 1; if i == 3 { break; } }": 13, "i := 0; for g(i) < 1 { i = i + 1; }": 10,
		"x := func() { };": 2, "x := func() { }; x();": 4, "func() { }();": 3, "func() { print(1); }();": 4, "x := f; x();": 4, "s := S{1}; s.m();": 4, "s := &S{1}; s.m(); s.m();": 6, "var i I = &S{1}; i.m();": 4, "x := []S{S{1}}; x[0].m();": 4,
		"panic(1);": 2, "panic(g(1));": 4, "var x func(); x();": 3, "var i I; i.m();": 3, "var x func(int); x(g(1));": 5, "x := 1 / 0;": 2, "print(g(1) / g(0));": 6, "var l []int; l[g(0)] = g(1);": 5, "for 1 / 0 == 0 { }": 3, "if 1 / 0 == 0 { }": 2,
	} {
		if r := walk.Run(parsed(t, around+src+" }"), 1000); r.Steps != want || r.End != api.Exit && r.End != api.Trapped {
			t.Errorf("%s: %s; want %d", src, told(r), want)
		}
	}
}

// With each fuel up to what a run needs and beyond it: what was done till there.
func TestFuel(t *testing.T) {
	for _, c := range []cases.Case{
		{Src: "", End: ""}, {Src: "print(1); print(2);", End: ""}, {Src: "i := 0; for i < 3 { print(i); i = inc(i); }", End: ""}, {Src: "print(add(say(1), say(2))); panic(3);", End: "panic 3"}, {Src: "x := S{1, nil}; print(x.m(say(4))); var i I; i.m(1);", End: "nil"},
		{Src: "f := func(n int) { if n > 2 { print(n); } else if n > 1 { return; } else { { print(0); } } }; f(1); f(2); f(3); var g func(); g();", End: "nil"},
	} {
		n := parsed(t, c.Program())
		whole := walk.Run(n, api.MaxFuel)
		if endOf(whole) != c.End {
			t.Fatalf("%s: %s", c.Src, told(whole))
		}
		last := ""
		for fuel := range whole.Steps {
			r := walk.Run(n, fuel)
			if endOf(r) != "fuel" || r.Steps != fuel || !strings.HasPrefix(string(r.Out), last) || !strings.HasPrefix(string(whole.Out), string(r.Out)) {
				t.Errorf("%s, fuel %d: %s", c.Src, fuel, told(r))
			}
			last = string(r.Out)
		}
		for _, fuel := range []int{whole.Steps, whole.Steps + 1, api.MaxFuel, api.MaxFuel + 1, 1<<63 - 1} {
			if r := walk.Run(n, fuel); told(r) != told(whole) {
				t.Errorf("%s, fuel %d: %s", c.Src, fuel, told(r))
			}
		}
	}
}

func TestMostFuel(t *testing.T) {
	for _, src := range []string{"func main() { for { } }", "func main() { for true { } }", "func f() { } func main() { for { f(); } }"} {
		n := parsed(t, src)
		for fuel, want := range map[int]int{0: 0, 1: 1, 5: 5, api.MaxFuel - 1: api.MaxFuel - 1, api.MaxFuel: api.MaxFuel, api.MaxFuel + 1: api.MaxFuel, 1<<63 - 1: api.MaxFuel} {
			if r := walk.Run(n, fuel); told(r) != told(api.Report{End: api.NoFuel, Steps: want}) {
				t.Errorf("%s, fuel %d: %s", src, fuel, told(r))
			}
		}
	}
}

func TestStack(t *testing.T) {
	const calls = "func f(n int) int { if n == 0 { return 0; } return f(n - 1); } "
	for n, want := range map[int]api.Report{
		// Each call but the last one has three steps: itself, the if and the return; the last one's return stands in the if.
		998: {End: api.Exit, Steps: 2 + 998*3 + 3, Out: []byte("0\n")},
		999: {End: api.NoStack, Steps: 2 + 999*3 + 1},
	} {
		if r := walk.Run(parsed(t, calls+"func main() { print(f("+strconv.Itoa(n)+")); }"), api.MaxFuel); told(r) != told(want) {
			t.Errorf("%d: %s", n, told(r))
		}
	}
	for src, steps := range map[string]int{
		"func main() { main(); }":                                                       2001,
		"func f() { main(); } func main() { f(); }":                                     2001,
		"func main() { { main(); } }":                                                   2001,
		"func main() { print(1 / 1); main(); }":                                         3001,
		"func main() { f := main; f(); }":                                               3001,
		"func main() { var f func(); f = func() { f(); }; f(); }":                       2003,
		"type S struct { } func (s *S) m() { s.m(); } func main() { var s *S; s.m(); }": 2002,
		"type I interface { m(i I); } type S struct { } func (s *S) m(i I) { i.m(i); } func main() { var s *S; s.m(s); }": 2002,
		"func f(n int) int { return f(n); } func main() { x := 1 + f(f(2)); }":                                            2001,
		"type S struct { } func (s *S) m() func() { return func() { s.m()(); }; } func main() { var s *S; s.m()(); }":     2 + 4*999 + 2,
	} {
		n := parsed(t, src)
		r := walk.Run(n, api.MaxFuel)
		if r.End != api.NoStack {
			t.Errorf("%s: %s", src, told(r)[:60])
		}
		if r.Steps != steps {
			t.Errorf("%s: %d steps; want %d", src, r.Steps, steps)
		}
		// The step comes first: without fuel for it, the stack is not looked at.
		if r := walk.Run(n, steps-1); r.End != api.NoFuel || r.Steps != steps-1 {
			t.Errorf("%s, one step less: %d, %d", src, r.End, r.Steps)
		}
		if r := walk.Run(n, steps); r.End != api.NoStack || r.Steps != steps {
			t.Errorf("%s, just the steps: %d, %d", src, r.End, r.Steps)
		}
	}
}

// Calls that have ended are within no other one.
func TestStackComesDown(t *testing.T) {
	for _, src := range []string{
		"func f(n int) int { return n; } func main() { i := 0; for i < 3000 { i = i + f(1); } print(i); }",
		"func f(n int) int { if n == 0 { return 0; } return f(n - 1); } func main() { i := 0; for i < 3 { print(f(998)); i = i + 1; } print(f(998)); }",
		"type S struct { } func (s *S) m() { } func main() { i := 0; for i < 3000 { s := S{}; s.m(); func() { return; }(); i = i + 1; } }",
		"func f(n int) int { for { if n > 0 { return 1; } break; } return f(n + 1); } func main() { i := 0; for i < 2000 { f(i % 2); i = i + 1; } }",
	} {
		if r := walk.Run(parsed(t, src), api.MaxFuel); r.End != api.Exit {
			t.Errorf("%s: %s", src, told(r))
		}
	}
}
