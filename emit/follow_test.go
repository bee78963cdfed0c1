package emit_test

import (
	"bytes"
	"fmt"
	"testing"

	"halyard/api"
	"halyard/code"
	"halyard/emit"
	"halyard/parse"
	"halyard/print"
	"halyard/verify"
	"halyard/vm"
)

// What the tests of P20.1 and P20.2 hold each program against.

func parsed(t testing.TB, src string) api.Node {
	t.Helper()
	n, at, e := parse.Parse(src)
	if e != api.OK {
		t.Fatalf("Parse: %d at %d of %q", e, at, src)
	}
	return n
}

func told(r api.Report) string {
	return fmt.Sprintf("End %d, Trap %d, Value %d, Steps %d, Allocs %d, Out %q", r.End, r.Trap, r.Value, r.Steps, r.Allocs, r.Out)
}

func isBig(r api.Report) bool {
	return r.End == api.Exit || r.End == api.Trapped || r.End == api.OutFull
}

// follows: does a run of the machine follow a tree's, by the chapter's words?
func follows(machine, tree api.Report) bool {
	if isBig(machine) && isBig(tree) {
		return machine.End == tree.End && machine.Trap == tree.Trap && machine.Value == tree.Value && bytes.Equal(machine.Out, tree.Out)
	}
	isBeginning := bytes.HasPrefix(tree.Out, machine.Out)
	isGoneOn := bytes.HasPrefix(machine.Out, tree.Out)
	return !isBig(machine) && isBeginning || !isBig(tree) && isGoneOn
}

// emitted: the program of a tree; it is sound, has no areas, and comes again.
func emitted(t testing.TB, n api.Node) api.Prog {
	t.Helper()
	p, e := emit.Emit(n)
	again, f := emit.Emit(n)
	if e != api.OK || f != api.OK {
		t.Fatalf("Emit: %d, %d of %s", e, f, shown(n))
	}
	if f, at, e := verify.Check(p); e != api.OK {
		t.Fatalf("not sound: %d at %d, %d of %s", e, f, at, shown(n))
	}
	for i, f := range p.Funcs {
		if len(f.Areas) > 0 {
			t.Fatalf("function %d has areas: %s", i, shown(n))
		}
	}
	one, _ := code.Encode(p)
	other, _ := code.Encode(again)
	if !bytes.Equal(one, other) {
		t.Fatalf("two programs of %s", shown(n))
	}
	return p
}

func shown(n api.Node) string {
	src, _ := print.Text(n)
	return src
}

func most() api.Config { return api.Config{Heap: 40000, Stack: 40000, Fuel: api.MaxSteps} }

// ran: a run's report; Value and Trap are there just for what they are told of.
func ran(t testing.TB, p api.Prog, c api.Config) api.Report {
	t.Helper()
	r := vm.New(p, c).Run()
	if r.End == api.Rejected || r.End == api.Running {
		t.Fatalf("%s", told(r))
	}
	return r
}
