package check_test

import (
	"math/rand"
	"slices"
	"strings"
	"testing"

	"halyard/api"
	"halyard/check"
	"halyard/parse"
	"halyard/print"
)

// Check against the second checker, with programs that an author wrote and with such that were changed.

// hold: Check, Table and Ends answer as the second checker does.
func hold(t *testing.T, n api.Node) api.Errno {
	t.Helper()
	table, e := check.Table(n)
	got := check.Check(n)
	if !parse.Sound(n) {
		if e != api.ErrForm || got != api.ErrForm || len(table) > 0 {
			t.Fatalf("Table: %v, %d; Check: %d: %v", table, e, got, n)
		}
		return api.ErrForm
	}
	src, _ := print.Text(n)
	if text, fault := referredTable(n); e != fault || tableText(table) != text {
		t.Fatalf("Table: %s, %d; want %s, %d: %s", tableText(table), e, text, fault, src)
	}
	want := referred(n)
	if got != want {
		t.Fatalf("Check: %d; want %d: %s", got, want, src)
	}
	for _, at := range nodes(&n) {
		if at.Kind == api.SBlock && check.Ends(*at) != lastEnds(*at) {
			t.Fatalf("Ends: %v of %v", !lastEnds(*at), *at)
		}
	}
	return want
}

// sort: nodes of one sort may stand for each other.
func sort(n api.Node) int {
	switch {
	case n.Kind >= api.EInt:
		return api.EInt
	case n.Kind >= api.SVar || n.Kind == api.SBlock:
		return api.SBlock
	case n.Kind >= api.TyName:
		return api.TyName
	}
	return n.Kind
}

var otherNames = strings.Fields("n b s st p l i f g t one two three none main print len append panic mkS ptrS S T E I J U Z M N get a h v1 v2 v3 v4 v5 v6 v7 int bool string")

var otherTexts = strings.Fields("+ - * / % < <= > >= == != && || - ! & *")

// change changes one thing of a tree.
func change(pick *rand.Rand, n *api.Node) {
	list := nodes(n)
	at := chosen(pick, list)
	switch pick.Intn(10) {
	case 0, 1, 2, 3:
		var alike []*api.Node
		for _, other := range list {
			if sort(*other) == sort(*at) {
				alike = append(alike, other)
			}
		}
		*at = copied(*chosen(pick, alike))
	case 4, 5:
		if at.Kind == api.EBinary || at.Kind == api.EUnary {
			at.Text = chosen(pick, otherTexts)
		} else if at.Text != "" && at.Kind != api.EStr {
			at.Text = chosen(pick, otherNames)
		}
	case 6:
		if len(at.Kids) > 0 {
			i := pick.Intn(len(at.Kids))
			at.Kids = slices.Delete(slices.Clone(at.Kids), i, i+1)
		}
	case 7:
		if len(at.Kids) > 0 {
			i := pick.Intn(len(at.Kids))
			at.Kids = slices.Insert(slices.Clone(at.Kids), i, copied(at.Kids[i]))
		}
	case 8:
		if len(at.Kids) > 1 {
			i, j := pick.Intn(len(at.Kids)), pick.Intn(len(at.Kids))
			at.Kids[i], at.Kids[j] = at.Kids[j], at.Kids[i]
		}
	case 9:
		at.Num += pick.Intn(3) - 1
	}
}

func TestWrittenPrograms(t *testing.T) {
	pick := rand.New(rand.NewSource(1))
	good := 0
	for range 400 {
		if hold(t, parsed(t, written(pick))) == api.OK {
			good++
		}
	}
	if good < 300 {
		t.Errorf("%d of 400 programs are well typed: the test tells little", good)
	}
}

func changedProgram(t *testing.T, pick *rand.Rand) api.Errno {
	t.Helper()
	n := parsed(t, written(pick))
	for range 1 + pick.Intn(2) {
		change(pick, &n)
	}
	return hold(t, n)
}

func TestChangedPrograms(t *testing.T) {
	pick := rand.New(rand.NewSource(2))
	ends := map[api.Errno]int{}
	for range 3000 {
		ends[changedProgram(t, pick)]++
	}
	if ends[api.OK] < 300 || ends[api.ErrType] < 1000 || ends[api.ErrForm] < 100 {
		t.Errorf("%v: the test tells little", ends)
	}
}

func FuzzCheck(f *testing.F) {
	f.Add(int64(1))
	f.Fuzz(func(t *testing.T, seed int64) { changedProgram(t, rand.New(rand.NewSource(seed))) })
}
