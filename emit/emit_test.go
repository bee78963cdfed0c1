package emit_test

import (
	"testing"

	"halyard/api"
	"halyard/cases"
	"halyard/check"
	"halyard/emit"
	"halyard/walk"
)

// P20.1 and P20.2, by the sentences of the chapters 2 to 6: what a tree prints and how it ends, its program does too.

// everyWay: a program's runs with room enough, with nothing, everything and something collected and moved.
func everyWay() []api.Config {
	all := make([]bool, 2000)
	for i := range all {
		all[i] = true
	}
	some := []bool{false, true, true, false, false, true, false, true}
	return []api.Config{
		{Heap: 40000, Stack: 40000, Fuel: api.MaxSteps},
		{Heap: 40000, Stack: 40000, Fuel: api.MaxSteps, Collects: all},
		{Heap: api.MaxWords, Stack: api.MaxWords, Fuel: 1<<63 - 1, Moves: all},
		{Heap: 40000, Stack: 40000, Fuel: api.MaxSteps + 1, Collects: some, Moves: some},
	}
}

// One case takes more than there is.
func TestCases(t *testing.T) {
	wanting := 0
	for _, c := range cases.All() {
		n := parsed(t, c.Program())
		if check.Check(n) != api.OK {
			if _, e := emit.Emit(n); e != api.ErrType || c.End != "rejected" {
				t.Errorf("%s: %d", c.Src, e)
			}
			continue
		}
		p := emitted(t, n)
		for i, way := range everyWay() {
			r := ran(t, p, way)
			if !c.Wants(r) && (isBig(r) || !follows(r, walk.Run(n, api.MaxFuel))) {
				t.Errorf("%s, way %d: %s; want %q, %q", c.Src, i, told(r), c.Out, c.End)
			}
			if !isBig(r) {
				wanting++
			}
		}
	}
	if wanting > 4 {
		t.Errorf("%d runs had too little", wanting)
	}
}

// Each kind of node is in some case that is well typed.
func TestCasesHaveAll(t *testing.T) {
	seen := map[int]bool{}
	texts := map[string]bool{}
	for _, c := range cases.All() {
		n := parsed(t, c.Program())
		if check.Check(n) != api.OK {
			continue
		}
		for _, at := range nodes(&n) {
			seen[at.Kind] = true
			if at.Kind >= api.EUnary {
				texts[at.Text] = true
			}
			if at.Kind == api.ECut {
				texts["cut"+string(rune('0'+at.Num))] = true
			}
		}
	}
	for kind := api.NProg; kind <= api.EBinary; kind++ {
		isNone := kind == 9 || kind > api.TyFunc && kind < api.SBlock || kind > api.SNext && kind < api.EInt
		if !seen[kind] && !isNone {
			t.Errorf("no node of kind %d", kind)
		}
	}
	if len(texts) != 13+2+4 {
		t.Errorf("operators and cuts: %v", texts)
	}
}

// The machine's answer to what a tree does for want of calls: it has no more of them.
func TestDepth(t *testing.T) {
	const calls = "func f(n int) int { if n == 0 { return 0; } return f(n - 1); } "
	for src, want := range map[string]int{
		calls + "func main() { print(f(900)); }":                  api.Exit,
		calls + "func main() { print(f(998)); }":                  api.Exit,
		calls + "func main() { print(f(999)); }":                  api.NoStack,
		"func main() { main(); }":                                 api.NoStack,
		"func main() { var f func(); f = func() { f(); }; f(); }": api.NoStack,
		"type I interface { m(i I); } type S struct { } func (s *S) m(i I) { i.m(i); } func main() { var s *S; s.m(s); }": api.NoStack,
	} {
		n := parsed(t, src)
		if r := ran(t, emitted(t, n), most()); r.End != want || !follows(r, walk.Run(n, api.MaxFuel)) {
			t.Errorf("%s: %s; want %d", src, told(r), want)
		}
	}
}

func TestErrors(t *testing.T) {
	for src, want := range map[string]api.Errno{
		"":                                       api.ErrType,
		"func f() { }":                           api.ErrType,
		"func main(n int) { }":                   api.ErrType,
		"func main() { x := nil; }":              api.ErrType,
		"func main() { x = 1; }":                 api.ErrType,
		"func main() { print(nil); }":            api.ErrType,
		"func main() { f(); }":                   api.ErrType,
		"func main() { break; }":                 api.ErrType,
		"func f() int { } func main() { }":       api.ErrType,
		"func main() { } func main() { }":        api.ErrType,
		"type S struct { a S; } func main() { }": api.ErrType,
		"type int struct { } func main() { }":    api.ErrType,
		"func (s *S) m() { } func main() { }":    api.ErrType,
		"func main() { }":                        api.OK,
		"func f() { f(); } func main() { }":      api.OK,
		"type S struct { l []S; p *S; } type I interface { m(i I) I; } func main() { }": api.OK,
	} {
		n := parsed(t, src)
		p, e := emit.Emit(n)
		if e != want || e != check.Check(n) || e != api.OK && !isNothing(p) {
			t.Errorf("%q: %d; want %d", src, e, want)
		}
	}
}

func isNothing(p api.Prog) bool {
	return p.Types == nil && p.Funcs == nil && p.Tables == nil && p.Strs == nil
}
