package emit_test

import (
	"math/rand"
	"strings"
	"testing"

	"halyard/api"
	"halyard/check"
	"halyard/emit"
	"halyard/parse"
	"halyard/sample"
	"halyard/walk"
)

// Programs that were written at random, and such that were changed, with any Config.

// writtenProgram: its tree; false, if it is too large.
func writtenProgram(t *testing.T, pick *rand.Rand) (api.Node, bool) {
	t.Helper()
	src := sample.Program(pick.Intn, 10+pick.Intn(40))
	n, at, e := parse.Parse(src)
	if e != api.OK && e != api.ErrLarge {
		t.Fatalf("Parse: %d at %d of %s", e, at, src)
	}
	return n, e == api.OK
}

// someConfig: mostly one in which there is room enough.
func someConfig(pick *rand.Rand) api.Config {
	c := api.Config{Heap: api.MaxWords, Stack: api.MaxWords, Fuel: 300000, Collects: script(pick), Moves: script(pick)}
	switch pick.Intn(6) {
	case 0:
		c.Heap = pick.Intn(500)
	case 1:
		c.Stack = pick.Intn(300)
	case 2:
		c.Fuel = pick.Intn(2000)
	}
	return c
}

func script(pick *rand.Rand) []bool {
	list := make([]bool, pick.Intn(200))
	often := 1 + pick.Intn(5)
	for i := range list {
		list[i] = pick.Intn(often) == 0
	}
	return list
}

func seeded(seed int64) *rand.Rand { return rand.New(rand.NewSource(seed)) }

type met map[string]int

// hold: the runs of a program follow its tree's.
func hold(t *testing.T, pick *rand.Rand, n api.Node, seen met) {
	t.Helper()
	if e := check.Check(n); e != api.OK {
		seen["rejected"]++
		if _, f := emit.Emit(n); f != e {
			t.Fatalf("Emit: %d; Check: %d of %s", f, e, shown(n))
		}
		return
	}
	p := emitted(t, n)
	whole := walk.Run(n, 20000)
	for range 4 {
		tree := whole
		if pick.Intn(4) == 0 {
			tree = walk.Run(n, pick.Intn(whole.Steps+2))
		}
		c := someConfig(pick)
		machine := ran(t, p, c)
		if !follows(machine, tree) {
			t.Fatalf("the machine: %s;\nthe tree: %s;\n%v:\n%s", told(machine), told(tree), c, shown(n))
		}
		seen[endOf(machine)+" of "+endOf(tree)]++
	}
}

func endOf(r api.Report) string {
	if r.End == api.Trapped {
		return []string{"", "zero", "range", "nil", "panic", "large", "kind"}[r.Trap]
	}
	return []string{"running", "exit", "", "fuel", "full", "memory", "stack", "rejected"}[r.End]
}

func TestWrittenPrograms(t *testing.T) {
	t.Parallel()
	seen := met{}
	for seed := range int64(150) {
		pick := seeded(seed)
		if n, ok := writtenProgram(t, pick); ok {
			hold(t, pick, n, seen)
		}
	}
	for what, least := range map[string]int{
		"exit of exit": 80, "fuel of fuel": 40, "exit of fuel": 20, "fuel of exit": 15, "memory of exit": 15, "memory of fuel": 10, "stack of exit": 5, "stack of fuel": 4,
		"nil of nil": 15, "range of range": 30, "zero of zero": 5, "panic of panic": 5, "range of fuel": 8,
	} {
		if seen[what] < least {
			t.Errorf("%d times %s: the test tells little", seen[what], what)
		}
	}
}

// P20.3 holds of many of them, but for the number of their nodes.
func TestShortPrograms(t *testing.T) {
	t.Parallel()
	short := 0
	for seed := range int64(120) {
		pick := seeded(seed)
		n, _, e := parse.Parse(sample.Program(pick.Intn, pick.Intn(30)))
		if e == api.OK && isShort(n) {
			endsBig(t, n)
			short++
		}
	}
	if short < 60 {
		t.Errorf("%d programs: the test tells little", short)
	}
}

// sort: nodes of one sort may stand for each other.
func sort(n api.Node) int {
	switch {
	case n.Kind >= api.EInt:
		return api.EInt
	case n.Kind >= api.SBlock:
		return api.SBlock
	case n.Kind >= api.TyName:
		return api.TyName
	}
	return n.Kind
}

// change puts one node's copy for another one, or another text for one's text.
func change(pick *rand.Rand, n *api.Node) {
	list := nodes(n)
	at, other := list[pick.Intn(len(list))], list[pick.Intn(len(list))]
	for sort(*other) != sort(*at) {
		other = list[pick.Intn(len(list))]
	}
	switch texts := strings.Fields("+ - * / % < <= > >= == != && || ! &"); {
	case at.Kind >= api.EUnary:
		at.Text = texts[pick.Intn(len(texts))]
	case at.Kind == api.EInt:
		at.Num = pick.Intn(4)
	case other.Kind == at.Kind && at.Text != "":
		at.Text = other.Text
	default:
		*at = copied(*other)
	}
}

// nodes: pointers to all nodes of a tree.
func nodes(n *api.Node) []*api.Node {
	list := []*api.Node{n}
	for i := range n.Kids {
		list = append(list, nodes(&n.Kids[i])...)
	}
	return list
}

func copied(n api.Node) api.Node {
	all := n.Kids[:cap(n.Kids)]
	kids := make([]api.Node, len(all))
	for i, kid := range all {
		kids[i] = copied(kid)
	}
	n.Kids = kids[:len(n.Kids)]
	return n
}

func changedProgram(t *testing.T, pick *rand.Rand, seen met) {
	t.Helper()
	if n, ok := writtenProgram(t, pick); ok {
		change(pick, &n)
		hold(t, pick, n, seen)
	}
}

func TestChangedPrograms(t *testing.T) {
	t.Parallel()
	pick := seeded(1)
	seen := met{}
	for range 250 {
		changedProgram(t, pick, seen)
	}
	if seen["rejected"] < 100 || seen["exit of exit"] < 30 || seen["range of range"] < 10 || seen["nil of nil"] < 5 {
		t.Errorf("%v: the test tells little", seen)
	}
}

func FuzzEmit(f *testing.F) {
	f.Add(int64(1))
	f.Fuzz(func(t *testing.T, seed int64) { changedProgram(t, seeded(seed), met{}) })
}
