package emit_test

import (
	"strconv"
	"strings"
	"testing"

	"halyard/api"
	"halyard/cases"
	"halyard/walk"
)

// P20.1: ends for want, of the tree's run and of the machine's; what is written ahead of them.

// wanting: what runs of all lengths are made of.
func wanting() []string {
	return []string{
		"print(1); print(\"ab\"); print(true); print(false); print(-12);",
		"i := 0; for i < 4 { print(i); i = inc(i); } panic(i);",
		"x := S{1, nil}; y := x; print(y.m(2)); var i I = &y; print(i.m(3)); i = nil; i.m(1);",
		"s := \"a\"; for len(s) < 5 { s = s + \"b\"; print(s); } print(s[2:9]);",
		"var l []int; for len(l) < 6 { l = append(l, len(l)); print(l[len(l) - 1]); } print(len(l[2:])); print(1 / (l[0] * 1));",
		"x := 1; f := func(n int) int { x = x + n; return x; }; print(f(2)); print(f(3)); var g func(); g();",
		"var f func(int) int; f = func(n int) int { print(n); if n == 0 { return 0; } return f(n - 1); }; f(5);",
	}
}

// eachConfig runs a program with each number up to the one with which it has its end, and some beyond it.
func eachConfig(t *testing.T, src string, with func(number int) api.Config) map[int]int {
	t.Helper()
	n := parsed(t, cases.Case{Src: src}.Program())
	p := emitted(t, n)
	tree := walk.Run(n, api.MaxFuel)
	ends := map[int]int{}
	last := ""
	for number := 0; number < 3000; number++ {
		r := ran(t, p, with(number))
		if !follows(r, tree) || !strings.HasPrefix(string(r.Out), last) {
			t.Errorf("%d, %s: %s; want %s", number, src, told(r), told(tree))
		}
		last = string(r.Out)
		ends[r.End]++
		if isBig(r) && ends[r.End] > 50 {
			return ends
		}
	}
	t.Errorf("%s: no end", src)
	return ends
}

func TestFuels(t *testing.T) {
	for _, src := range wanting() {
		ends := eachConfig(t, src, func(fuel int) api.Config { return api.Config{Heap: 1000, Stack: 1000, Fuel: fuel} })
		if ends[api.NoFuel] < 20 {
			t.Errorf("%v: %s", ends, src)
		}
	}
}

func TestHeaps(t *testing.T) {
	for i, src := range wanting() {
		ends := eachConfig(t, src, func(words int) api.Config {
			return api.Config{Heap: words, Stack: 1000, Fuel: 10000, Collects: []bool{false, true, words%2 == 0}}
		})
		if i > 1 && ends[api.NoMemory] < 3 {
			t.Errorf("%v: %s", ends, src)
		}
	}
}

func TestStacks(t *testing.T) {
	for _, src := range wanting() {
		ends := eachConfig(t, src, func(words int) api.Config {
			return api.Config{Heap: 1000, Stack: words, Fuel: 10000, Moves: []bool{true, words%3 == 0, true}}
		})
		if ends[api.NoStack] < 3 {
			t.Errorf("%v: %s", ends, src)
		}
	}
}

// Whatever fuel the tree has.
func TestTreesFuels(t *testing.T) {
	for _, src := range wanting() {
		n := parsed(t, cases.Case{Src: src}.Program())
		p := emitted(t, n)
		whole := walk.Run(n, api.MaxFuel)
		for fuel := range whole.Steps + 2 {
			tree := walk.Run(n, fuel)
			for _, c := range []api.Config{{}, most(), {Heap: 1000, Stack: 1000, Fuel: 5 * fuel}, {Heap: fuel, Stack: 1000, Fuel: 10000}, {Heap: 1000, Stack: fuel, Fuel: 10000}} {
				if r := ran(t, p, c); !follows(r, tree) {
					t.Errorf("fuel %d, %s: %s; want %s", fuel, src, told(r), told(tree))
				}
			}
		}
	}
}

// Runs that never end, and such as end by writing too much, on both ways.
func TestEndless(t *testing.T) {
	for src, want := range map[string]int{
		"for { }": api.NoFuel, "for true { }": api.NoFuel, "i := 0; for { i = i + 1; }": api.NoFuel, "for { none := inc(1); if none == 3 { break; } }": api.NoFuel,
		"for { print(1); }": api.OutFull, "for { print(true); }": api.OutFull, "for { print(\"\"); }": api.OutFull, "for { print(\"abc\"); }": api.OutFull, "i := 0; for { print(i); i = i - 1; }": api.OutFull,
		"var f func(); f = func() { print(1); f(); }; f();": api.NoStack, "for { x := S{1, nil}; x.b = &x; }": api.NoFuel, "x := &S{1, nil}; for { x = &S{1, x}; }": api.NoMemory,
	} {
		n := parsed(t, cases.Case{Src: src}.Program())
		p := emitted(t, n)
		c := most()
		c.Fuel = 400000
		r := ran(t, p, c)
		for _, fuel := range []int{0, 10, 1000, api.MaxFuel} {
			if tree := walk.Run(n, fuel); r.End != want || !follows(r, tree) {
				t.Errorf("%s, fuel %d: %s; want %d", src, fuel, told(r)[:60], want)
			}
		}
	}
}

// As much is written as there may be, and a byte more.
func TestOutFull(t *testing.T) {
	line := strings.Repeat("x", 1023)
	for last, want := range map[string]int{
		"": api.Exit, "print(\"\");": api.OutFull, "print(1);": api.OutFull, "print(true);": api.OutFull, "print(1 / 0);": api.Trapped, "panic(3);": api.Trapped, "return; print(1);": api.Exit,
	} {
		src := "s := \"" + line + "\"; " + strings.Repeat("print(s); ", api.MaxOut/1024) + last
		fullRun(t, src, want)
	}
	for spare := range 6 {
		want := api.OutFull
		if spare >= 3 {
			want = api.Exit
		}
		src := "s := \"" + line + "\"; " + strings.Repeat("print(s); ", api.MaxOut/1024-1) + "print(s[" + strconv.Itoa(spare) + ":]); "
		fullRun(t, src+"print(12);", want)
		fullRun(t, src+"print(\"ab\");", want)
		if spare < 5 {
			want = api.OutFull
		}
		fullRun(t, src+"print(true);", want)
	}
}

func fullRun(t *testing.T, src string, want int) {
	t.Helper()
	n := parsed(t, cases.Case{Src: src}.Program())
	tree := walk.Run(n, api.MaxFuel)
	if r := ran(t, emitted(t, n), most()); r.End != want || tree.End != want || !follows(r, tree) {
		t.Errorf("%s: %d, %d bytes; want %d", src[1030:], r.End, len(r.Out), want)
	}
}
