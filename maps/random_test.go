package maps_test

import (
	"math/rand"
	"testing"

	"halyard/api"
	"halyard/code"
	"halyard/sample"
)

// Random programs that are sound.
func TestRandomSound(t *testing.T) {
	pick := rand.New(rand.NewSource(1)).Intn
	seen, rich := 0, 0
	for range 2000 {
		e, many := hold(t, sample.Prog(pick))
		if e != api.OK {
			t.Fatalf("not sound: %d", e)
		}
		seen += many
		if many > 5 {
			rich++
		}
	}
	if seen < 10000 || rich < 500 {
		t.Errorf("%d maps, %d programs with more than five", seen, rich)
	}
}

// Random programs with a change or two.
func TestRandomChanged(t *testing.T) {
	pick := rand.New(rand.NewSource(2)).Intn
	seen := map[api.Errno]int{}
	for range 10000 {
		p := sample.Prog(pick)
		for range 1 + pick(2) {
			sample.ChangeProg(pick, &p)
		}
		e, _ := hold(t, p)
		seen[e]++
	}
	for _, e := range []api.Errno{api.OK, api.ErrForm, api.ErrForms, api.ErrRange, api.ErrStack, api.ErrKind, api.ErrJump} {
		if seen[e] < 100 {
			t.Errorf("the programs met too little: %v", seen)
		}
	}
}

// FuzzOf holds programs against the second way, as bytes of layer 10.
func FuzzOf(f *testing.F) {
	pick := rand.New(rand.NewSource(3)).Intn
	for _, p := range []api.Prog{world(in(api.OpStr, 1, 0), halt), plain(in(api.OpOut)), {}, sample.Prog(pick), sample.Prog(pick)} {
		b, _ := code.Encode(p)
		f.Add(b)
	}
	f.Fuzz(func(t *testing.T, b []byte) {
		if p, e := code.Decode(b); e == api.OK {
			hold(t, p)
		}
	})
}
