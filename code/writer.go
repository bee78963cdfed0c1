package code

import "halyard/api"

// writer puts a program's parts behind one another. It goes on while the bytes are not too many.
type writer struct{ out []byte }

func (w *writer) going() bool { return len(w.out) <= api.MaxBytes }

func (w *writer) fixed(text string) { w.out = append(w.out, text...) }

func (w *writer) number(n *int) {
	z := folded(*n)
	for z >= 128 {
		w.out = append(w.out, byte(z)|128)
		z >>= 7
	}
	w.out = append(w.out, byte(z))
}

func (w *writer) count(items int) int {
	w.number(&items)
	return items
}

func (w *writer) text(s *string) {
	w.count(len(*s))
	w.out = append(w.out, *s...)
}

// folded: 2n, or -2n - 1 if n is below 0: all bits of 2n turned round, which holds at the numbers' ends too.
func folded(n int) uint64 {
	z := uint64(n) << 1
	if n < 0 {
		return ^z
	}
	return z
}
