package pile_test

import (
	"math/rand"
	"slices"
	"testing"

	"halyard/pile"
)

// list: the n topmost kinds of a pile, the top last.
func list(t *testing.T, p *pile.Pile, n int) []int {
	kinds := make([]int, n)
	next := n
	for i, kind := range p.Down(n) {
		next--
		if i != next {
			t.Fatalf("kind %d is told as the one of number %d", next, i)
		}
		kinds[i] = kind
	}
	if next != 0 {
		t.Fatalf("%d of %d kinds are not told", next, n)
	}
	return kinds
}

func want(t *testing.T, p *pile.Pile, kinds []int) {
	t.Helper()
	if p.Depth() != len(kinds) || !slices.Equal(list(t, p, p.Depth()), kinds) {
		t.Fatalf("%d: %v; want %v", p.Depth(), list(t, p, p.Depth()), kinds)
	}
	if n := len(kinds); n > 0 && p.Top() != kinds[n-1] {
		t.Fatalf("on top %d; want %d", p.Top(), kinds[n-1])
	}
}

// Piles are as lists are, whatever was put at once and taken at once, and none is changed by what is made of it.
func TestPiles(t *testing.T) {
	pick := rand.New(rand.NewSource(1)).Intn
	empty := &pile.Pile{}
	piles, lists := []*pile.Pile{empty}, [][]int{nil}
	for range 2000 {
		at := pick(len(piles))
		p, kinds := piles[at], lists[at]
		if n := pick(len(kinds) + 1); pick(2) == 0 {
			p, kinds = p.Without(n), kinds[:len(kinds)-n]
		} else {
			more := make([]int, pick(4))
			for i := range more {
				more[i] = pick(3)
			}
			p, kinds = p.With(more...), slices.Concat(kinds, more)
		}
		piles, lists = append(piles, p), append(lists, kinds)
	}
	for i, p := range piles {
		want(t, p, lists[i])
		n := pick(len(lists[i]) + 1)
		if got := list(t, p, n); !slices.Equal(got, lists[i][len(lists[i])-n:]) {
			t.Fatalf("the upper %d of %v are %v", n, lists[i], got)
		}
	}
	alike := 0
	for i, p := range piles {
		for j, q := range piles {
			if pile.Same(p, q) != slices.Equal(lists[i], lists[j]) {
				t.Fatalf("Same of %v and %v is %v", lists[i], lists[j], pile.Same(p, q))
			}
			if i != j && len(lists[i]) > 2 && pile.Same(p, q) {
				alike++
			}
		}
	}
	if alike < 100 {
		t.Errorf("%d were the same", alike)
	}
}

// Down ends when it is left.
func TestDownIsLeft(t *testing.T) {
	p := new(pile.Pile).With(1, 2).With(3)
	told := 0
	for i := range p.Down(3) {
		told++
		if i == 1 {
			break
		}
	}
	if told != 2 {
		t.Errorf("%d kinds were told", told)
	}
}
