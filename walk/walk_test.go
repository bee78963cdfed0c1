package walk_test

import (
	"strconv"
	"strings"
	"testing"

	"halyard/api"
	"halyard/parse"
	"halyard/walk"
)

// P6.1, by the sentences of the chapter.

// head declares what stands around main. Those that print tell when they are looked at.
const head = `
type S struct { a int; b *S; }
type T struct { n int; f func(int) int; l []S; i I; c string; z bool; }
type E struct { }
type I interface { m(n int) int; }
type U interface { }
func (s *S) m(n int) int { if s == nil { return n; } s.a = s.a + n; return s.a; }
func (t *T) m(n int) int { return t.n * n; }
func (s *S) get() int { return s.a; }
func say(n int) int { print(n); return n; }
func yes(n int) bool { print(n); return true; }
func no(n int) bool { print(n); return false; }
func ptr(p *S, n int) *S { print(n); return p; }
func list(l []int, n int) []int { print(n); return l; }
func face(i I, n int) I { print(n); return i; }
func fun(f func(int) int, n int) func(int) int { print(n); return f; }
func text(s string, n int) string { print(n); return s; }
func two(a int, b int) (int, int) { return a, b; }
func add(a int, b int) int { return a + b; }
func inc(n int) int { return n + 1; }
func two2() (I, *S) { return nil, nil; }
`

func parsed(t testing.TB, src string) api.Node {
	t.Helper()
	n, at, e := parse.Parse(src)
	if e != api.OK {
		t.Fatalf("Parse: %d at %d of %q", e, at, src)
	}
	return n
}

// endOf: how a run ended, as it is written in these tests; nothing for Exit.
func endOf(r api.Report) string {
	switch {
	case r.End == api.Trapped && r.Trap == api.TrapPanic:
		return "panic " + strconv.Itoa(r.Value)
	case r.Value != 0 || (r.Trap != 0) != (r.End == api.Trapped) || r.Allocs != 0:
		return told(r)
	case r.End == api.Trapped:
		return []string{"", "zero", "range", "nil", "", "large", "kind"}[r.Trap]
	}
	return []string{"running", "", "", "fuel", "full", "memory", "stack", "rejected"}[r.End]
}

// rest: what stands in main, the lines that it prints with blanks between, and its end.
type rest struct{ src, out, end string }

func eachRest(t *testing.T, list []rest) {
	t.Helper()
	for _, c := range list {
		r := walk.Run(parsed(t, head+"func main() { "+c.src+" }"), 100000)
		out := strings.Join(strings.Split(strings.TrimSuffix(string(r.Out), "\n"), "\n"), " ")
		if end := endOf(r); out != c.out || end != c.end {
			t.Errorf("%s: %q, %q; want %q, %q", c.src, out, end, c.out, c.end)
		}
	}
}

func TestNumbers(t *testing.T) {
	const least = "(-9223372036854775807 - 1)"
	eachRest(t, []rest{
		{"print(1 + 2 * 3); print((1 + 2) * 3); print(10 - 3 - 2); print(-5); print(- -5);", "7 9 5 -5 5", ""},
		{"print(9223372036854775807 + 1);", "-9223372036854775808", ""},
		{"print(" + least + " - 1); print(-" + least + "); print(" + least + " * -1);", "9223372036854775807 -9223372036854775808 -9223372036854775808", ""},
		{"print(9223372036854775807 * 9223372036854775807); print(4294967296 * 4294967296); print(3037000500 * 3037000500);", "1 0 -9223372036709301616", ""},
		{"print(7 / 2); print(-7 / 2); print(7 / -2); print(-7 / -2);", "3 -3 -3 3", ""},
		{"print(7 % 2); print(-7 % 2); print(7 % -2); print(-7 % -2); print(6 % 3);", "1 -1 1 -1 0", ""},
		{"print(" + least + " / -1); print(" + least + " % -1); print(" + least + " / 1); print(" + least + " % 10);", "-9223372036854775808 0 -9223372036854775808 -8", ""},
		{"print(0 / 5); print(0 % 5); print(1 / 9223372036854775807);", "0 0 0", ""},
		{"print(1 / 0);", "", "zero"}, {"print(1 % 0);", "", "zero"}, {"print(0 / 0);", "", "zero"}, {"x := 0; x = " + least + " % x;", "", "zero"},
		{"print(1 < 2); print(2 < 2); print(2 <= 2); print(3 <= 2); print(3 > 2); print(2 > 2); print(2 >= 2); print(1 >= 2);", "true false true false true false true false", ""},
		{"print(" + least + " < 9223372036854775807); print(" + least + " > 0); print(-1 < 0); print(-1 >= 1);", "true false true false", ""},
		{"print(1 == 1); print(1 == 2); print(1 != 1); print(1 != 2);", "true false false true", ""},
		{"print(true == true); print(true == false); print(false != false); print(!true); print(!!true);", "true false false false true", ""},
	})
}

func TestTexts(t *testing.T) {
	eachRest(t, []rest{
		{`print("a" + "b"); print("" + ""); print(len("")); print(len("abc")); print(len("\x00\xff"));`, "ab  0 3 2", ""},
		{`print("abc"[0]); print("abc"[2]); print("\xff"[0]); print("\x00"[0]);`, "97 99 255 0", ""},
		{`print("abc"[3]);`, "", "range"}, {`print("abc"[-1]);`, "", "range"}, {`print(""[0]);`, "", "range"}, {`print("abc"[9223372036854775807]);`, "", "range"},
		{`print("abc"[1:2]); print("abc"[1:]); print("abc"[:2]); print("abc"[:]); print("abc"[3:] + "x" + "abc"[0:0] + "abc"[:0]);`, "b bc ab abc x", ""},
		{`print("abc"[4:]);`, "", "range"}, {`print("abc"[:4]);`, "", "range"}, {`print("abc"[2:1]);`, "", "range"}, {`print("abc"[-1:]);`, "", "range"}, {`print("abc"[:-1]);`, "", "range"}, {`print("abc"[1:4]);`, "", "range"},
		{`print("a" < "b"); print("a" < "a"); print("a" < "ab"); print("" < "a"); print("b" < "ab"); print("Z" < "a"); print("a" < "\xff"); print("\x7f" < "\x80");`, "true false true true false true true true", ""},
		{`print("a" <= "a"); print("b" <= "a"); print("b" > "a"); print("a" > "a"); print("a" >= "a"); print("a" >= "b");`, "true false true false true false", ""},
		{`print("ab" == "a" + "b"); print("ab" == "ba"); print("ab" != "ab"); print("" == ""); print("a" != "");`, "true false false true true", ""},
		{`s := "abc"; t := s; s = s + "d"; print(t); print(s); print(len(s[1:3]));`, "abc abcd 2", ""},
	})
}

func TestBoxes(t *testing.T) {
	eachRest(t, []rest{
		{"x := 1; p := &x; *p = 5; print(x); x = 6; print(*p);", "5 6", ""},
		{"x := 1; p := &x; q := &p; **q = 3; print(x); y := 4; *q = &y; print(*p); print(x);", "3 4 3", ""},
		{"s := []int{1, 2, 3}; p := &s[1]; *p = 9; print(s[1]); s[1] = 8; print(*p); s = append(s, 4); s[1] = 7; print(*p);", "9 8 8", ""},
		{"x := S{1, nil}; p := &x.a; *p = 5; print(x.a); x = S{6, nil}; print(*p); q := &x; *q = S{7, nil}; print(*p); print(x.a);", "5 6 7 7", ""},
		{"s := []S{S{1, nil}}; p := &s[0]; q := &s[0].a; s[0] = S{2, p}; print(p.a); print(*q); print(p.b == p); p.a = 3; print(s[0].a);", "2 2 true 3", ""},
		{"x := S{1, nil}; p := &x; x.b = p; p.b.b.b.a = 8; print(x.a);", "8", ""},
		{"p := &S{1, nil}; q := p; q.a = 2; print(p.a); p = &S{3, nil}; print(q.a);", "2 2", ""},
		{"var p *int; var q **int = &p; print(*q == nil); x := 4; *q = &x; print(*p);", "true 4", ""},
		{"x := 1; f := &x; { x := 2; x = 3; f = &x; } print(x); print(*f);", "1 3", ""},
		{"var i I; p := &i; *p = &S{4, nil}; print(i.m(1)); *p = nil; print(i == nil);", "5 true", ""},
		{"f := inc; p := &f; print((*p)(1)); *p = func(n int) int { return n * 10; }; print(f(2)); *p = nil; print(f == nil);", "2 20 true", ""},
		{"l := []int{1}; p := &l; *p = append(*p, 2); print(len(l)); print((*p)[1]); (*p)[0] = 5; print(l[0]); *p = nil; print(len(l));", "2 2 5 0", ""},
		{`c := "ab"; p := &c; *p = *p + "c"; print(c); z := true; q := &z; *q = !*q; print(z);`, "abc false", ""},
	})
}

func TestStructsAreCopied(t *testing.T) {
	eachRest(t, []rest{
		{"p := &S{1, nil}; q := *p; p.a = 2; print(q.a); q.a = 3; print(p.a);", "1 2", ""},
		{"x := S{1, nil}; y := x; y.a = 2; print(x.a); x = y; y.a = 3; print(x.a); x.a = 4; print(y.a);", "1 2 3", ""},
		{"x := S{1, nil}; var y S = x; x.a = 2; print(y.a);", "1", ""},
		{"x := S{1, nil}; f := func(y S) { y.a = 5; x.a = x.a + 1; print(y.a); }; f(x); print(x.a);", "5 2", ""},
		{"x := S{1, nil}; f := func() S { return x; }; y := f(); y.a = 7; print(x.a); z := f(); x.a = 8; print(z.a);", "1 1", ""},
		{"x := S{1, nil}; f := func() (S, S) { return x, x; }; y, z := f(); y.a = 7; print(z.a); y, z = f(); z.a = 3; print(y.a); print(x.a);", "1 1 1", ""},
		{"x := S{1, nil}; s := []S{x, x}; s[0].a = 2; print(s[1].a); print(x.a); x.a = 3; print(s[1].a);", "1 1 1", ""},
		{"x := S{1, nil}; s := append([]S{}, x); x.a = 2; print(s[0].a); s = append(s, x); x.a = 9; print(s[1].a); s[1].a = 4; print(x.a);", "1 2 9", ""},
		{"s := []S{S{1, nil}}; t := append(s, s[0]); t[0].a = 5; print(s[0].a); print(t[1].a); u := append(t, t[0]); u[0].a = 6; print(t[0].a);", "1 1 6", ""},
		{"s := []S{S{1, nil}, S{2, nil}}; t := s[0:1]; p := &s[1]; q := &s[1].a; t = append(t, S{3, nil}); print(p.a); print(*q);", "3 3", ""},
		{"x, y := S{1, nil}, S{2, nil}; x, y = y, x; print(x.a); print(y.a);", "2 1", ""},
		{"s := []S{S{1, nil}, S{2, nil}, S{3, nil}}; s[0], s[1], s[2] = s[2], s[0], s[1]; print(s[0].a); print(s[1].a); print(s[2].a);", "3 1 2", ""},
		{"x := S{1, nil}; f := func() int { x.a = 9; return 0; }; y, n := x, f(); print(y.a); print(n); print(x.a);", "1 0 9", ""},
		{"x := S{1, nil}; f := func() S { x.a = 9; return x; }; s := []S{x, f(), x}; print(s[0].a); print(s[1].a); print(s[2].a);", "1 9 9", ""},
		{"x := S{1, nil}; g := func(y S, n int) { print(y.a); }; f := func() int { x.a = 9; return 0; }; g(x, f());", "1", ""},
		{"x := S{1, nil}; p := &x; s := []S{x}; *p = s[0]; s[0].a = 4; print(x.a); s[0] = *p; p.a = 5; print(s[0].a);", "1 1", ""},
		{"x := S{1, nil}; x = x; print(x.a); p := &x; *p = *p; print(p.a);", "1 1", ""},
		{"x := E{}; y := x; print(&x == &y); print(&x == &x); p := &E{}; *p = y; print(p == &y);", "false true false", ""},
		{"p := &S{1, nil}; q := &S{2, p}; *p = *q; print(p.a); print(p.b == p); q.a = 3; print(p.a);", "2 true 2", ""},
	})
}

// Ahead of a selection, a method's call and & nothing is copied.
func TestStructsAreNotCopied(t *testing.T) {
	eachRest(t, []rest{
		{"x := S{1, nil}; print(x.m(2)); print(x.a);", "3 3", ""},
		{"s := []S{S{1, nil}}; print(s[0].m(2)); print(s[0].a); s[0].a = 7; print(s[0].get());", "3 3 7", ""},
		{"p := &S{1, nil}; print((*p).m(2)); print(p.a); (*p).a = 5; print(p.a); print((*p).get());", "3 3 5 5", ""},
		{"x := S{1, nil}; (&x).a = 4; print(x.a); print((&x).m(1)); print(x.a); y := &x; y.m(1); print(x.get());", "4 5 5 6", ""},
		{"x := T{2, inc, nil, nil, \"\", true}; print(x.f(5)); x.l = append(x.l, S{1, nil}); x.l[0].m(3); print(x.l[0].a); x.i = &x; print(x.i.m(4)); x.n = 3; print(x.i.m(4));", "6 4 8 12", ""},
		{"f := func() S { return S{3, nil}; }; print(f().a); print(S{4, nil}.a); print(T{1, inc, nil, nil, \"\", false}.f(8)); print((&S{5, nil}).m(1));", "3 4 9 6", ""},
		{"f := func() []S { return []S{S{1, nil}}; }; print(f()[0].m(1)); f()[0].a = 3; print(f()[0].a); p := &f()[0]; print(p.m(2));", "2 1 3", ""},
		{"x := S{1, nil}; f := func() int { x.a = 9; return 1; }; print(x.m(f())); print(x.a);", "10 10", ""},
	})
}

func TestSlices(t *testing.T) {
	eachRest(t, []rest{
		{"s := []int{1, 2, 3}; t := s[1:]; t[0] = 9; print(s[1]); print(len(t)); u := t[1:]; u[0] = 8; print(s[2]); print(len(u[1:]));", "9 2 8 0", ""},
		{"s := []int{1, 2, 3, 4}; t := s[1:3]; print(len(t)); print(t[0]); print(t[1]); print(t[2]);", "2 2 3", "range"},
		{"s := []int{1, 2, 3}; t := s[0:1]; t = append(t, 9); print(s[1]); t = append(t, 8); print(s[2]); t = append(t, 7); t[0] = 5; print(s[0]); print(len(s));", "9 8 1 3", ""},
		{"s := []int{1, 2, 3}; t := s[1:2]; t = append(t, 9); print(s[2]); t = append(t, 8); t[0] = 5; print(s[1]); print(len(t));", "9 2 3", ""},
		{"s := []int{1, 2, 3}; t := s[3:]; print(len(t)); print(t == nil); t = append(t, 4); print(t[0]); print(len(s));", "0 false 4 3", ""},
		{"s := []int{1, 2}; t := s[:0]; t = append(t, 7); print(s[0]); print(len(t)); t = append(t[:0], 6); print(s[0]);", "7 1 6", ""},
		{"var s []int; print(s == nil); print(len(s)); t := s[:]; print(t == nil); print(s[0:0] == nil); print(s[0:] == nil); print(s[:0] != nil);", "true 0 true true true false", ""},
		{"var s []int; s = s[0:1];", "", "range"}, {"var s []int; s = s[1:];", "", "range"}, {"var s []int; print(s[0]);", "", "range"}, {"var s []int; s[0] = 1;", "", "range"}, {"var s []S; s[0].a = 1;", "", "range"}, {"var s []int; p := &s[0];", "", "range"},
		{"s := []int{}; print(s == nil); print(s != nil); print(len(s)); print(s[:] == nil); s = nil; print(s == nil);", "false true 0 false true", ""},
		{"s := []int{1, 2}; print(s[2]);", "", "range"}, {"s := []int{1, 2}; print(s[-1]);", "", "range"}, {"s := []int{1, 2}; s[2] = 1;", "", "range"}, {"s := []int{1, 2}; s[-1] = 1;", "", "range"}, {"s := []int{}; print(s[0]);", "", "range"},
		{"s := append([]int{}, 1); t := s[:2];", "", "range"}, {"s := append([]int{}, 1); t := s[1:]; print(len(t)); t = s[2:];", "0", "range"}, {"s := append([]int{}, 1); print(s[1]);", "", "range"},
		{"s := []int{1, 2}; t := s[2:1];", "", "range"}, {"s := []int{1, 2}; t := s[-1:1];", "", "range"}, {"s := []int{1, 2}; t := s[:3];", "", "range"}, {"s := []int{1, 2}; t := s[3:];", "", "range"}, {"s := []int{1, 2}; t := s[0:-1];", "", "range"},
		{"s := []int{1, 2}; t := s; t[0] = 3; print(s[0]); s = append(s, 4); print(len(t)); print(len(s));", "3 2 3", ""},
		{"f := func(s []int) { s[0] = 7; s = append(s, 1); s[0] = 8; }; l := []int{1}; f(l); print(l[0]); print(len(l));", "7 1", ""},
		{"s := [][]int{[]int{1}, nil, []int{}}; print(s[1] == nil); print(s[2] == nil); s[1] = append(s[1], 5); print(s[1][0]); s[0][0] = 6; t := s[0]; print(t[0]);", "true false 5 6", ""},
		{"s := []I{&S{1, nil}, nil, &T{3, nil, nil, nil, \"\", true}}; print(s[0].m(1)); print(s[1] == nil); print(s[2].m(2)); s[0], s[2] = s[2], s[0]; print(s[0].m(1));", "2 true 6 3", ""},
		{"s := []func(int) int{inc, nil}; print(s[0](1)); print(s[1] == nil); s[1] = s[0]; print(s[1](2)); s = append(s, nil); print(s[2] == nil);", "2 true 3 true", ""},
		{"s := []*S{nil, &S{1, nil}}; print(s[0] == nil); print(s[0].m(4)); s = append(s, nil); print(s[2].m(5)); s = append(s, nil); print(s[3].m(6)); s[1] = nil; print(s[1].m(7));", "true 4 5 6 7", ""},
	})
}

func TestAppend(t *testing.T) {
	eachRest(t, []rest{
		{"var s []int; s = append(s, 1); t := append(s, 2); u := append(s, 3); print(t[1]); print(len(s)); print(len(u));", "3 1 2", ""},
		{"s := []int{1}; t := append(s, 2); u := append(s, 3); print(t[1]); t[0] = 7; print(s[0]); print(u[0]);", "2 1 1", ""},
		{"s := append([]int{1, 2, 3}, 4); t := append(s, 5); u := append(s, 6); print(t[4]);", "5", ""},
		{"s := append([]int{1, 2}, 3); t := append(s, 5); u := append(s, 6); print(t[3]);", "6", ""},
		{"s := append([]int{1, 2, 3, 4}, 5); t := append(append(append(s, 6), 7), 8); u := append(s, 9); print(t[5]); v := append(t, 1); w := append(t, 2); print(v[8]);", "9 1", ""},
		{"var s []I; s = append(s, nil); s = append(s, &S{2, nil}); print(s[0] == nil); print(s[1].m(1)); s = append(s[:0], s[1]); print(s[0].m(1)); s = append(s[:0], nil); print(s[0] == nil);", "true 3 4 true", ""},
		{"var s [][]int; s = append(s, nil); s = append(s, []int{}); s = append(s, nil); print(s[0] == nil); print(s[1] == nil); print(s[2] == nil); s[2] = append(s[2], 1); print(s[2][0]);", "true false true 1", ""},
		{"s := []int{1}; f := func() int { s = append(s, 8); s[0] = 3; return 9; }; t := append(s, f()); print(len(t)); print(t[0]); print(t[1]); print(s[1]);", "2 1 9 8", ""},
		{"s := append(list(nil, 1), say(2)); print(len(s));", "1 2 1", ""},
		{"var s []S; s = append(s, S{1, nil}); t := append(s, S{2, nil}); p := &t[1]; u := append(s, S{3, nil}); print(p.a); print(&u[1] == p); print(&u[0] == &s[0]);", "3 true true", ""},
	})
}

// roomAt: what append leaves room for, told by whether two appends get one box.
const roomAt = "func isFull(s []int) bool { t := append(s, 1); u := append(s, 2); return t[len(s)] == 1; } "

func TestRooms(t *testing.T) {
	src := roomAt + "func main() { var s []int; for len(s) < 1023 { if isFull(s) { print(len(s)); } s = append(s, 0); } }"
	if r := walk.Run(parsed(t, src), api.MaxFuel); string(r.Out) != "0\n4\n8\n16\n32\n64\n128\n256\n512\n" {
		t.Errorf("%s", told(r))
	}
	for length, want := range map[int]int{0: 4, 1: 4, 2: 4, 3: 4, 4: 8, 5: 10, 6: 12, 300: 600, 511: 1022, 512: 1024, 513: 1024, 600: 1024, 1000: 1024, 1022: 1024, 1023: 1024} {
		values := strings.TrimSuffix(strings.Repeat("0, ", length), ", ")
		src := roomAt + "func main() { s := []int{" + values + "}; print(isFull(s)); s = append(s, 0); for len(s) < 1024 { if isFull(s) { print(len(s)); return; } s = append(s, 0); } print(len(s)); s = append(s, 0); }"
		r := walk.Run(parsed(t, src), api.MaxFuel)
		end := api.Exit
		if want == api.MaxLen {
			end = api.Trapped
		}
		if string(r.Out) != "true\n"+strconv.Itoa(want)+"\n" || r.End != end {
			t.Errorf("%d: %s", length, told(r))
		}
	}
}

func TestInterfaces(t *testing.T) {
	eachRest(t, []rest{
		{"var i I; print(i == nil); print(nil == i); print(i != nil); i = &S{4, nil}; print(i == nil); print(i.m(1)); i = &T{3, nil, nil, nil, \"\", true}; print(i.m(2)); i = nil; print(i == nil);", "true true false false 5 6 true", ""},
		{"var p *S; var i I = p; print(i == nil); print(i != nil); print(i.m(7)); print(p == nil);", "false true 7 true", ""},
		{"var p *S = nil; var i I = p; print(i == nil); p = nil; i = p; print(i == nil); q := &S{1, nil}; q = nil; i = q; print(i != nil);", "false false true", ""},
		{"var p *S; var q *S; var i I = p; var j I = q; print(i == j); j = &S{1, nil}; print(i == j); j = nil; print(i == j); i = nil; print(i == j);", "true false false true", ""},
		{"var p *S; var q *T; var i I = p; var j I = q; print(i == j); print(i != j);", "false true", ""},
		{"p := &S{1, nil}; var i I = p; var j I = p; print(i == j); j = &S{1, nil}; print(i == j); print(i != j); x := *p; j = &x; print(i == j);", "true false true false", ""},
		{"var u U = &E{}; var v U = &E{}; print(u == v); v = u; print(u == v); v = &S{1, nil}; print(u == v); u = nil; print(u == nil); print(v == nil);", "false true false true false", ""},
		{"f := func(i I) int { if i == nil { return -1; } return i.m(10); }; print(f(nil)); print(f(&S{1, nil})); var p *S; print(f(p));", "-1 11 10", ""},
		{"f := func(b bool) I { if b { return &S{1, nil}; } return nil; }; print(f(false) == nil); print(f(true) == nil); print(f(true).m(1)); g := func() I { var p *S; return p; }; print(g() == nil);", "true false 2 false", ""},
		{"f := func() (I, *S) { return nil, nil; }; i, p := f(); print(i == nil); print(p == nil); print(p.m(3)); i, p = f(); print(i == nil); i = p; print(i.m(4)); var j I; var k I; j, k = two2(); print(j == nil); print(k == nil);", "true true 3 true 4 true false", ""},
		{"x := S{1, nil}; var i I = &x; x.a = 5; print(i.m(1)); print(x.a); x = S{8, nil}; print(i.m(1));", "6 6 9", ""},
		{"t := T{1, nil, nil, nil, \"\", false}; print(t.i == nil); var p *S; t.i = p; print(t.i == nil); t.i = nil; print(t.i == nil); t = T{1, nil, nil, p, \"\", false}; print(t.i == nil);", "true false true false", ""},
		{"var i I = &S{1, nil}; i = nil; var p *S; i = p; print(i == nil); print(i.m(3)); i = nil; var j I; print(i == j); print(j == i); i = p; j = nil; print(i == j);", "false 3 true true false", ""},
		{"var i I; print(i.m(1));", "", "nil"}, {"i := face(nil, 1); i.m(2);", "1", "nil"}, {"var i I = &S{1, nil}; i = nil; i.m(2);", "", "nil"},
	})
}

func TestFunctions(t *testing.T) {
	eachRest(t, []rest{
		{"x := 1; f := func(n int) int { x = x + n; return x; }; f(2); print(f(3)); x = 10; print(f(1));", "6 11", ""},
		{"x := 1; f := func() { x = x + 1; }; g := func() int { return x * 10; }; f(); f(); print(g()); print(x);", "30 3", ""},
		{"new := func() func() int { n := 0; return func() int { n = n + 1; return n; }; }; a := new(); b := new(); a(); a(); print(a()); print(b());", "3 1", ""},
		{"var l []func() int; i := 0; for i < 3 { j := i; l = append(l, func() int { j = j + 10; return j; }); i = i + 1; } print(l[0]()); print(l[2]()); print(l[0]()); print(l[1]());", "10 12 20 11", ""},
		{"var l []func() int; i := 0; for i < 3 { l = append(l, func() int { return i; }); i = i + 1; } print(l[0]());", "3", ""},
		{"f := func(n int) func() int { return func() int { n = n + 1; return n; }; }; a := f(1); b := f(1); a(); print(a()); print(b());", "3 2", ""},
		{"var f func(int) int; f = func(n int) int { if n < 2 { return 1; } return n * f(n - 1); }; print(f(10)); g := f; f = inc; print(g(3));", "3628800 9", ""},
		{"x := 1; f := func() int { return x; }; x := 5; print(f()); print(x);", "", "rejected"},
		{"x := 1; { f := func() int { return x; }; x := 2; print(f()); print(x); x = 3; print(f()); }", "1 2 1", ""},
		{"x := 1; { var x int = x + 1; print(x); x, y := 5, x; print(y); } print(x);", "", "rejected"},
		{"x := 1; { var x int = x + 1; print(x); { x, y := 5, x; print(y); print(x); } } print(x);", "2 2 5 1", ""},
		{"f := add; print(f(1, 2)); g := main; print(g == nil); print(f != nil); f = nil; print(f == nil); print(inc == nil);", "3 false true true false", ""},
		{"print(func(a int, b int) int { return a - b; }(5, 3)); f := func() func() func() int { return func() func() int { return func() int { return 9; }; }; }; print(f()()());", "2 9", ""},
		{"l := []func(int) int{inc}; print(l[0](4)); t := T{1, inc, nil, nil, \"\", true}; print(t.f(5)); p := &t; print(p.f(6)); t.f = func(n int) int { return n + t.n; }; t.n = 7; print(p.f(1));", "5 6 7 8", ""},
		{"inc := func(n int) int { return n - 1; }; print(inc(5)); { add := inc; print(add(5)); } print(add(1, 1));", "4 4 2", ""},
		{"print := func(n int) { panic(n); }; print(5);", "", "panic 5"},
		{"len := func(s string) int { return 77; }; print(len(\"a\")); append := inc; print(append(1)); { panic := inc; panic(3); } panic(4);", "77 2", "panic 4"},
		{"f := func(p *int) { *p = 4; }; x := 1; f(&x); print(x); g := func(n int) *int { return &n; }; a := g(1); b := g(1); *a = 5; print(*b); print(a == b);", "4 1 false", ""},
		{"a, b := two(1, 2); print(a); print(b); b, a = two(3, 4); print(a); print(b); x, y := two(b, a); print(x + y * 10); f := func() (int, int) { return two(8, 9); }; a, b = f(); print(b);", "1 2 4 3 43 9", ""},
	})
}

// A variable may be named panic: a block that ends by that name is gone through, and the results are zero.
func TestRunsOffTheEnd(t *testing.T) {
	eachRest(t, []rest{
		{"f := func() (int, bool, string, *S, []int, I, func(), S) { panic := inc; panic(3); }; n, b, c, p, l, i, g, s := f(); print(n); print(b); print(len(c)); print(p == nil); print(l == nil); print(i == nil); print(g == nil); print(s.a); print(p.m(6));", "0 false 0 true true true true 0 6", ""},
		{"f := func(panic func(int)) int { if true { panic(1); } else { return 5; } }; print(say(3)); print(f(func(n int) { print(n + 1); return; }));", "3 3 2 0", ""},
	})
}

func TestZero(t *testing.T) {
	eachRest(t, []rest{
		{"var n int; var b bool; var c string; var p *S; var l []int; var f func(); var i I; var u U; print(n); print(b); print(c); print(len(c)); print(p == nil); print(l == nil); print(f == nil); print(i == nil); print(u == nil);", "0 false  0 true true true true true", ""},
		{"var s S; print(s.a); print(s.b == nil); var t T; print(t.n); print(t.f == nil); print(t.l == nil); print(t.i == nil); print(len(t.c)); print(t.z); print(s.m(2)); print(t.m(5)); s.b = &s; print(s.b.a);", "0 true 0 true true true 0 false 2 0 2", ""},
		{"var s S; s.a = 1; var t S; print(t.a); f := func() int { var s S; s.a = s.a + 1; return s.a; }; f(); print(f()); i := 0; for i < 2 { var s S; s.a = s.a + 1; print(s.a); i = i + 1; }", "0 1 1 1", ""},
		{"var t T; t.l = append(t.l, S{1, nil}); var u T; print(len(u.l)); print(len(t.l)); u = t; print(u.l[0].a); u.l[0].a = 2; print(t.l[0].a);", "0 1 1 2", ""},
		{"var e E; var f E; print(&e == &f); print(&e == &e); var pp **S; print(pp == nil); var pi *I; print(pi == nil); var ll [][]S; print(ll == nil); var pf *func(int) int; print(pf == nil);", "false true true true true true", ""},
	})
}
