package emit_test

import (
	"strconv"
	"strings"
	"testing"

	"halyard/api"
	"halyard/tally"
	"halyard/walk"
)

// P20.3: programs that do as much as the promise still speaks of.

// isBound: does P20.3 speak of a tree (whose structs are small)? Each step is work, but for a loop's rounds and for calls, beside which there is other work.
func isBound(n api.Node) bool { return tally.Nodes(n) <= 500 && isShort(n) }

// isShort: does its run do as little?
func isShort(n api.Node) bool {
	r, c := tally.Run(n, 60000)
	return isBig(r) && c.Things <= 4000 && c.Work <= 20000 && c.Calls*tally.Widest(n) <= 6000
}

// greatest number for N with which P20.3 speaks of a text.
func greatest(t *testing.T, src string) api.Node {
	t.Helper()
	with := func(number int) api.Node { return parsed(t, strings.ReplaceAll(src, "N", strconv.Itoa(number))) }
	low, high := 0, 8000
	for low < high {
		middle := (low + high + 1) / 2
		if isBound(with(middle)) {
			low = middle
		} else {
			high = middle - 1
		}
	}
	if low == 0 {
		t.Errorf("%d: %s", low, src)
	}
	return with(low)
}

// endsBig: with Heap and Stack at their least, and with more, and whatever is collected and moved.
func endsBig(t *testing.T, n api.Node) api.Report {
	t.Helper()
	p := emitted(t, n)
	want := walk.Run(n, api.MaxFuel)
	var first api.Report
	for i, c := range []api.Config{
		{Heap: 40000, Stack: 40000, Fuel: api.MaxSteps},
		{Heap: 40000, Stack: api.MaxWords, Fuel: api.MaxSteps + 1, Collects: []bool{true, false, true}, Moves: []bool{true, true, false, true}},
		{Heap: api.MaxWords, Stack: 40000, Fuel: api.MaxSteps},
	} {
		r := ran(t, p, c)
		if !isBig(r) || !follows(r, want) {
			t.Errorf("%v: End %d, Trap %d, Steps %d; want End %d, Trap %d: %s", c, r.End, r.Trap, r.Steps, want.End, want.Trap, shown(n))
		}
		if i == 0 {
			first = r
		}
	}
	return first
}

// around stands around what the bounds are tried with.
const around = `
type S struct { a int; b *S; }
type W struct { a int; b int; c int; d string; e []int; f I; g func(); h bool; }
type E struct { }
type I interface { m(n int) int; }
func (s *S) m(n int) int { return n; }
func (w *W) m(n int) int { return w.a + n; }
func (e *E) m(n int) int { return n; }
func inc(n int) int { return n + 1; }
func two(n int) (int, *S) { return n, nil; }
func taken(w W) W { return w; }
func none() { }
`

// counting: a loop that does something N times, with what stands ahead of it.
func counting(ahead, each string) string {
	return around + "func main() { i := 0; " + ahead + " for i < N { i = i + 1; " + each + " } }"
}

// manyTimes: what one thing of each kind costs.
func manyTimes() [][2]string {
	return [][2]string{
		{"", ""}, {"", "x := 1;"}, {"", "x := i; p := &x; *p = 2;"}, {"", "x, y := i, i; x, y = y, x;"}, {"", "print(i);"}, {"", "print(true);"}, {"", "print(\"\");"}, {"", "print(\"abcdefghijklmnopqrst\");"},
		{"", "continue;"}, {"", "if i % 2 == 0 { none(); } else { inc(i); }"}, {"", "for { break; }"}, {"", "{ { { } } }"}, {"b := true;", "b = b && i < 3 || !b;"}, {"", "x := -i + i * i / i - i % i;"}, {"b := true;", "b = i < 1 != (i > 1) == (i <= 1) || i >= 1;"},
		{"s := \"\";", "s = \"a\";"}, {"s := \"abc\";", "x := s[1];"}, {"s := \"abc\";", "t := s[1:]; t = s[:2]; t = s[1:2]; t = s[:];"}, {"s := \"abc\"; t := \"abc\";", "b := s == t; b = s < t; b = s >= t; b = s != \"\";"}, {"s := \"abcdefgh\"; t := s + s;", "b := s + s == t;"}, {"", "s := \"ab\" + \"cd\"; x := len(s);"},
		{"s := \"abcdefghijklmnopqrstuvwxyz\";", "t := s + s + s + s; t = t[5:];"}, {"s := \"\"; t := \"\";", "s = t + s;"}, {"s := \"a\"; l := []string{};", "l = append(l, s + \"b\");"}, {"s := \"a\"; l := []string{};", "l = append(l, \"abcd\");"}, {"s := \"\";", "if len(s) == 60 { s = \"\"; } s = s + \"a\";"},
		{"s := \"abcdefghijklmnopqrstuvwxyz\"; t := \"abcdefghijklmnopqrstuvwxyz\";", "b := s == t;"}, {"s := \"abcdefghijklmnopqrstuvwxyz\"; t := \"abcdefghijklmnopqrstuvwxyz\";", "b := s < t;"}, {"s := \"abcdefghijklmnopqrstuvwxyz\";", "print(s);"},
		{"", "x := S{i, nil};"}, {"x := S{1, nil};", "y := x; x = y;"}, {"x := S{1, nil}; y := x;", "x, y = y, x;"}, {"x := &S{1, nil};", "x = &S{i, x};"}, {"x := &S{1, nil};", "x.a = x.a + 1; x.m(x.a);"}, {"x := &S{1, nil};", "y := *x; *x = y;"}, {"x := &S{1, nil};", "y := &x.a; *y = 1; z := &x.b; *z = x;"},
		{"", "x := E{};"}, {"", "var x E; y := &x; x = *y;"}, {"x := E{}; y := x;", "x, y = y, x;"}, {"l := []E{};", "l = append(l, E{});"}, {"l := []*E{};", "l = append(l, &E{});"}, {"l := []I{};", "l = append(l, &E{});"}, {"x := E{};", "x.m(1);"},
		{"", "var x W;"}, {"var x W;", "y := x; x = y;"}, {"var x W; y := x;", "x, y = y, x;"}, {"var x W;", "x = taken(x);"}, {"l := []W{};", "l = append(l, W{1, 2, 3, \"\", nil, nil, nil, true});"}, {"l := []*W{};", "var x W; l = append(l, &x);"}, {"var x W;", "l := []W{x, x}; l[0] = l[1];"}, {"var x W; l := []W{x};", "l[0], x = x, l[0];"},
		{"l := []int{};", "l = append(l, i);"}, {"l := []int{};", "l = append(l[:0], i);"}, {"l := [][]int{};", "l = append(l, []int{});"}, {"l := [][]int{};", "l = append(l, nil);"}, {"l := [][]int{};", "l = append(l, append([]int{}, 1));"}, {"l := []int{1, 2, 3};", "l = l[:]; l = l[0:]; l = l[:3];"}, {"l := []int{1, 2, 3};", "l[0] = l[1]; l[2] = len(l);"},
		{"l := []*int{};", "x := i; l = append(l, &x);"}, {"l := [][]int{nil};", "l = append(l, l[0][:]);"}, {"l := []int{1}; m := [][]int{};", "m = append(m, l[1:]);"}, {"var l []int;", "m := []int{1, 2, 3, 4, 5}; l = m[2:];"}, {"l := []S{S{1, nil}};", "l[0].a = 2; p := &l[0]; p.b = p; l[0].m(3);"},
		{"", "f := func() { };"}, {"", "f := func() { i = i; }; f();"}, {"l := []func(){};", "l = append(l, func() { i = i + 0; });"}, {"l := []func(){};", "l = append(l, none);"}, {"l := []func(){}; var a int; var b int; var c int; var d int; var e int; var f int; var g int;", "l = append(l, func() { a, b, c, d, e, f, g = 1, 2, 3, 4, 5, 6, 7; }); l[len(l) - 1]();"},
		{"f := inc;", "x := f(f(i));"}, {"", "x := inc(inc(inc(i)));"}, {"", "x, y := two(i); x, y = two(x);"}, {"var x int; var y I;", "x, y = two(x); if y != nil { x = y.m(1); }"}, {"l := []func(int) int{inc};", "x := l[0](i);"},
		{"var x I = &S{1, nil};", "y := x.m(1); y = x.m(x.m(y));"}, {"x := &S{1, nil}; var y I;", "y = x; y = nil; y = x;"}, {"x := &S{1, nil}; l := []I{};", "l = append(l, x);"}, {"x := []I{&S{1, nil}, &E{}};", "y := x[i % 2].m(1);"}, {"var x I; var y I = &E{};", "x, y = y, x; b := x == y;"},
		{"var x *S; var y I; var z []int; var f func();", "b := x == nil; b = y == nil; b = z == nil; b = f == nil; b = nil != x;"},
		{"var f func(int) int; f = func(n int) int { if n == 0 { return 0; } return f(n - 1); };", "f(5);"}, {"f := func(n int) func() int { return func() int { n = n + 1; return n; }; };", "f(i)();"}, {"x := 1; p := &x; q := &p; r := &q;", "***r = ***r + 1;"},
	}
}

func TestBounds(t *testing.T) {
	t.Parallel()
	for _, c := range manyTimes() {
		endsBig(t, greatest(t, counting(c[0], c[1])))
	}
}

// deep: calls that are within one another N times, in functions of each form.
func deep() []string {
	const calls = "func main() { f(N); }"
	return []string{
		"func f(n int) { if n > 0 { f(n - 1); } } " + calls,
		"func f(n int) int { if n > 0 { return f(n - 1) + 1; } return 0; } " + calls,
		"func f(a int) { var b bool; var c bool; var d bool; var e bool; var g bool; var h bool; var i bool; var j bool; var k bool; if a > 0 { f(a - 1); } } " + calls,
		"func f(a int, b int, c int, d int, e int, g int, h int, i int) { if a > 0 { f(a - 1, b, c, d, e, g, h, i); } } func main() { f(N, 1, 2, 3, 4, 5, 6, 7); }",
		"func f(n int) (int, int, int, int, int) { if n > 0 { return f(n - 1); } return 1, 2, 3, 4, 5; } " + calls,
		"func f(n int) (int, int, int) { if n > 0 { a, b, c := f(n - 1); return c, a, b; } return 1, 2, 3; } " + calls,
		"func f(n int) { a, b, c, d := n, n, n, n; a, b, c, d = d, c, b, a; if n > 0 { f(n - 1); } } " + calls,
		"func f(n int) int { if n == 0 { return 0; } return 1 + (2 + (3 + (4 + (5 + (6 + (7 + (8 + (9 + f(n - 1))))))))); } " + calls,
		"func f(n int) bool { if n == 0 { return true; } return true == (true == (true == (true == (true == f(n - 1))))); } " + calls,
		"func f(n int) int { if n == 0 || 1 > f(n - 1) && 2 >= 1 { return 0; } return 1; } " + calls,
		"func f(n int) int { p := &n; if *p == 0 { return 0; } q := &p; return f(**q - 1); } " + calls,
		"func f(n int) []int { if n == 0 { return nil; } return []int{1, 2, len(f(n - 1))}; } " + calls,
		"func f(n int) []int { if n == 0 { return []int{1}; } return append(append(f(n - 1)[:1], n), n); } " + calls,
		"func f(n int) string { if n == 0 { return \"\"; } return (\"a\" + f(n - 1))[:1]; } " + calls,
		"type S struct { a int; b int; c int; d int; } func f(s S) S { if s.a == 0 { return s; } return f(S{s.a - 1, s.b, s.c, s.d}); } func main() { f(S{N, 1, 2, 3}); }",
		"type S struct { n int; } func (s *S) m() { if s.n > 0 { s.n = s.n - 1; s.m(); } } func main() { s := S{N}; s.m(); }",
		"type I interface { m(n int) int; } type S struct { i I; } func (s *S) m(n int) int { if n == 0 { return 0; } return s.i.m(n - 1); } func main() { s := S{nil}; s.i = &s; s.m(N); }",
		"type I interface { m(n int, i I); } type S struct { } func (s *S) m(n int, i I) { if n > 0 { i.m(n - 1, s); } } func main() { var s S; s.m(N, &s); }",
		"func main() { var f func(int) int; f = func(n int) int { if n == 0 { return 0; } return f(n - 1) + 1; }; print(f(N)); }",
		"func f(n int, g func(int) int) int { if n == 0 { return g(1); } return f(n - 1, func(k int) int { return g(k + n); }); } func main() { print(f(N, func(n int) int { return n; })); }",
		"func f(n int) func() int { if n == 0 { return func() int { return 0; }; } return func() int { return f(n - 1)() + 1; }; } func main() { print(f(N)()); }",
		"func f(n int) { for n > 0 { { { if true { f(n - 1); } } } break; } } " + calls,
		"func f(n int) int { if n > 0 { return 1 + f(n - 1); } return 1 / n; } " + calls,
		"func f(n int) { if n > 0 { f(n - 1); } else { panic(n - 5); } } " + calls,
		"func f(n int) { if n == 0 { print(\"abc\" + \"def\"); print(true); return; } f(n - 1); } " + calls,
		"func f(n int) bool { if n == 0 { return \"abc\" + \"def\" < \"abc\"[1:]; } return f(n - 1); } " + calls,
		"func f(n int) int { if n == 0 { l := append([]int{1, 2, 3}[1:], 4); return l[2]; } return f(n - 1); } " + calls,
		"func f(n int) { if n > 0 { g(n); } } func g(n int) { f(n - 1); } " + calls,
		"func main() { i := 0; var f func(); f = func() { if i < N { i = i + 1; f(); } }; f(); }",
	}
}

func TestDeepBounds(t *testing.T) {
	t.Parallel()
	for _, src := range deep() {
		endsBig(t, greatest(t, src))
	}
}
