package walk_test

import (
	"fmt"
	"math/rand"
	"strings"
	"testing"

	"halyard/api"
	"halyard/check"
	"halyard/parse"
	"halyard/print"
	"halyard/sample"
	"halyard/tally"
	"halyard/walk"
)

// Run against the second walker, with programs that were written at random and with such that were changed.

func told(r api.Report) string {
	return fmt.Sprintf("End %d, Trap %d, Value %d, Steps %d, Allocs %d, Out %q", r.End, r.Trap, r.Value, r.Steps, r.Allocs, r.Out)
}

// writtenProgram: its tree; false, if it is too large.
func writtenProgram(t *testing.T, pick *rand.Rand) (api.Node, bool) {
	t.Helper()
	src := sample.Program(pick.Intn, 10+pick.Intn(40))
	n, at, e := parse.Parse(src)
	if e != api.OK && e != api.ErrLarge {
		t.Fatalf("Parse: %d at %d of %s", e, at, src)
	}
	return n, e == api.OK
}

// hold: Run reports what the second walker does.
func hold(t *testing.T, n api.Node, fuel int) api.Report {
	t.Helper()
	got, want := walk.Run(n, fuel), api.Report{End: api.Rejected}
	if check.Check(n) == api.OK {
		want, _ = tally.Run(n, fuel)
	}
	if told(got) != told(want) {
		src, _ := print.Text(n)
		t.Fatalf("%s;\nwant %s:\n%s", told(got), told(want), src)
	}
	return got
}

func TestWrittenPrograms(t *testing.T) {
	ends := map[string]int{}
	for seed := range int64(300) {
		pick := rand.New(rand.NewSource(seed))
		if n, ok := writtenProgram(t, pick); ok {
			ends[endOf(hold(t, n, 1+pick.Intn(5000)))]++
		}
	}
	if ends[""] < 80 || ends["fuel"] < 30 || ends["nil"] < 10 || ends["range"] < 20 {
		t.Errorf("%v: the test tells little", ends)
	}
}

// P8: more fuel changes no end but NoFuel.
func TestMoreFuel(t *testing.T) {
	for seed := range int64(60) {
		pick := rand.New(rand.NewSource(seed))
		n, ok := writtenProgram(t, pick)
		if !ok {
			continue
		}
		whole := walk.Run(n, 4000)
		for range 10 {
			fuel := pick.Intn(whole.Steps + 10)
			r := walk.Run(n, fuel)
			if fuel >= whole.Steps && whole.End != api.NoFuel && told(r) != told(whole) {
				t.Fatalf("fuel %d: %s; want %s", fuel, told(r), told(whole))
			}
			if fuel < whole.Steps && (r.End != api.NoFuel || r.Steps != fuel || !strings.HasPrefix(string(whole.Out), string(r.Out))) {
				t.Fatalf("fuel %d: %s; want a beginning of %s", fuel, told(r), told(whole))
			}
		}
	}
}

// sort: nodes of one sort may stand for each other.
func sort(n api.Node) int {
	switch {
	case n.Kind >= api.EInt:
		return api.EInt
	case n.Kind >= api.SBlock:
		return api.SBlock
	case n.Kind >= api.TyName:
		return api.TyName
	}
	return n.Kind
}

// change puts one node's copy for another one, or another text for one's text.
func change(pick *rand.Rand, n *api.Node) {
	list := nodes(n)
	at, other := list[pick.Intn(len(list))], list[pick.Intn(len(list))]
	for sort(*other) != sort(*at) {
		other = list[pick.Intn(len(list))]
	}
	switch texts := strings.Fields("+ - * / % < <= > >= == != && || ! &"); {
	case at.Kind >= api.EUnary:
		at.Text = texts[pick.Intn(len(texts))]
	case at.Kind == api.EInt:
		at.Num = pick.Intn(4)
	case other.Kind == at.Kind && at.Text != "":
		at.Text = other.Text
	default:
		*at = copied(*other)
	}
}

func changedProgram(t *testing.T, pick *rand.Rand) string {
	t.Helper()
	n, ok := writtenProgram(t, pick)
	if !ok {
		return "large"
	}
	change(pick, &n)
	return endOf(hold(t, n, 1+pick.Intn(3000)))
}

func TestChangedPrograms(t *testing.T) {
	pick := rand.New(rand.NewSource(1))
	ends := map[string]int{}
	for range 400 {
		ends[changedProgram(t, pick)]++
	}
	if ends[""] < 30 || ends["rejected"] < 100 || ends["fuel"] < 20 || ends["range"] < 10 {
		t.Errorf("%v: the test tells little", ends)
	}
}

func FuzzRun(f *testing.F) {
	f.Add(int64(1))
	f.Fuzz(func(t *testing.T, seed int64) { changedProgram(t, rand.New(rand.NewSource(seed))) })
}
