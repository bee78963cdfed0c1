package sample_test

import (
	"math/rand"
	"reflect"
	"testing"

	"halyard/api"
	"halyard/calls"
	"halyard/sample"
)

func TestHiersAreSound(t *testing.T) {
	pick := rand.New(rand.NewSource(5)).Intn
	direct, asked := 0, 0
	for range 2000 {
		h := sample.Hier(pick)
		if e := calls.Sound(h); e != api.OK {
			t.Fatalf("Sound: %d of %+v", e, h)
		}
		for _, s := range h.Sites {
			if s.Iface < 0 {
				direct++
			} else {
				asked++
			}
		}
	}
	if min(direct, asked) < 1000 {
		t.Errorf("%d direct sites, %d others", direct, asked)
	}
}

func TestChangedHiers(t *testing.T) {
	pick := rand.New(rand.NewSource(6)).Intn
	count := map[api.Errno]int{}
	for range 2000 {
		h := sample.Hier(pick)
		sample.ChangeHier(pick, &h)
		e := calls.Sound(h)
		count[e]++
		if e == api.OK && h.Funcs > 10 {
			t.Fatalf("many functions: %+v", h)
		}
	}
	if count[api.OK] < 20 || count[api.ErrForm] < 20 || count[api.ErrLarge] < 5 {
		t.Errorf("too little of something: %v", count)
	}
}

func TestOneChoiceIsOneHier(t *testing.T) {
	first := sample.Hier(rand.New(rand.NewSource(3)).Intn)
	if again := sample.Hier(rand.New(rand.NewSource(3)).Intn); !reflect.DeepEqual(first, again) {
		t.Errorf("%+v, then %+v", first, again)
	}
}
