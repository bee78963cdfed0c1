package sample_test

import (
	"math/rand"
	"reflect"
	"testing"

	"halyard/api"
	"halyard/sample"
	"halyard/verify"
)

func TestProgsAreSound(t *testing.T) {
	pick := rand.New(rand.NewSource(7)).Intn
	met := map[int]int{}
	for range 2000 {
		p := sample.Prog(pick)
		if f, at, e := verify.Check(p); e != api.OK {
			t.Fatalf("Check: %d at %d, %d of %+v", e, f, at, p)
		}
		for f, fn := range p.Funcs {
			_, come, _ := verify.Stacks(p, f)
			for at, is := range come {
				if is {
					met[fn.Code[at].Op]++
				}
			}
		}
	}
	for op := api.OpInt; op <= api.OpStr; op++ {
		if met[op] < 100 {
			t.Errorf("operation %d was met %d times", op, met[op])
		}
	}
}

func TestChangedProgs(t *testing.T) {
	pick := rand.New(rand.NewSource(8)).Intn
	met := map[api.Errno]int{}
	for range 5000 {
		p := sample.Prog(pick)
		sample.ChangeProg(pick, &p)
		_, _, e := verify.Check(p)
		met[e]++
	}
	for _, e := range []api.Errno{api.OK, api.ErrForm, api.ErrForms, api.ErrRange, api.ErrStack, api.ErrKind, api.ErrJump} {
		if met[e] < 50 {
			t.Errorf("too little of something: %v", met)
		}
	}
}

func TestOneChoiceIsOneProg(t *testing.T) {
	first := sample.Prog(rand.New(rand.NewSource(3)).Intn)
	if again := sample.Prog(rand.New(rand.NewSource(3)).Intn); !reflect.DeepEqual(first, again) {
		t.Errorf("%+v, then %+v", first, again)
	}
}
