package code

// reader takes a program's parts from the beginning of what is left. Behind a fault nothing is left.
type reader struct {
	rest  []byte
	fault bool
}

func (r *reader) going() bool { return !r.fault }

func (r *reader) fail() { r.rest, r.fault = nil, true }

func (r *reader) fixed(text string) {
	if r.take(len(text)) != text {
		r.fail()
	}
}

func (r *reader) number(n *int) { *n = unfolded(r.bits()) }

func (r *reader) text(s *string) { *s = r.take(r.count(0)) }

// count: what the bytes say, whatever the list has so far.
func (r *reader) count(int) int {
	var n int
	r.number(&n)
	if n < 0 {
		r.fail()
		return 0
	}
	return n
}

// take: the next bytes, as a string of its own.
func (r *reader) take(n int) string {
	if n > len(r.rest) {
		r.fail()
		return ""
	}
	taken := string(r.rest[:n])
	r.rest = r.rest[n:]
	return taken
}

// bits: a number's bits by sevens. The tenth byte has only the last of 64 bits; a 0 at the end, behind other bytes, is one byte more than will do.
func (r *reader) bits() uint64 {
	var z uint64
	for i, b := range r.rest {
		if i == 9 && b > 1 || i > 0 && b == 0 {
			break
		}
		z |= uint64(b&127) << (7 * i)
		if b < 128 {
			r.rest = r.rest[i+1:]
			return z
		}
	}
	r.fail()
	return 0
}

// unfolded: the number that is folded to these bits.
func unfolded(z uint64) int {
	if z%2 == 1 {
		return ^int(z >> 1)
	}
	return int(z >> 1)
}
