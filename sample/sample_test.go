package sample_test

import (
	"math/rand"
	"testing"

	"halyard/api"
	"halyard/check"
	"halyard/parse"
	"halyard/sample"
)

func TestProgramsAreWellTyped(t *testing.T) {
	for seed := range int64(500) {
		src := sample.Program(rand.New(rand.NewSource(seed)).Intn, 5+int(seed)%60)
		n, at, e := parse.Parse(src)
		if e == api.ErrLarge {
			continue
		}
		if e != api.OK {
			t.Fatalf("Parse: %d at %d: %s", e, at, src[at:])
		}
		if e := check.Check(n); e != api.OK {
			t.Fatalf("Check: %d of %s", e, src)
		}
	}
}

func TestOneChoiceIsOneProgram(t *testing.T) {
	first := sample.Program(rand.New(rand.NewSource(3)).Intn, 30)
	if again := sample.Program(rand.New(rand.NewSource(3)).Intn, 30); first != again {
		t.Errorf("%s\n---\n%s", first, again)
	}
	if other := sample.Program(rand.New(rand.NewSource(4)).Intn, 30); first == other {
		t.Error("other choices make the same program")
	}
}
