package scan

import "strings"

// class is a set of bytes: it answers whether a byte is one of them.
type class func(b byte) bool

func between(low, high byte) class {
	return func(b byte) bool { return low <= b && b <= high }
}

func oneOf(set string) class {
	return func(b byte) bool { return strings.IndexByte(set, b) >= 0 }
}

func either(parts ...class) class {
	return func(b byte) bool {
		for _, part := range parts {
			if part(b) {
				return true
			}
		}
		return false
	}
}

func not(c class) class {
	return func(b byte) bool { return !c(b) }
}

// letter and digit are written out, not put together: later layers ask for so many names that making their classes each time would be most of the work.

func letter(b byte) bool { return 'a' <= b && b <= 'z' || 'A' <= b && b <= 'Z' || b == '_' }

func digit(b byte) bool { return '0' <= b && b <= '9' }

// at: a place beyond the text's end has no byte, so it is in no class.
func (c class) at(src string, place int) bool {
	return place < len(src) && c(src[place])
}

// end: where the longest run of the class from a place on ends.
func (c class) end(src string, place int) int {
	for c.at(src, place) {
		place++
	}
	return place
}

// alphabet: the classes by which blanks and the forms of tokens are told.
type alphabet struct {
	blank, remark class // remark: what a remark goes on with
	first, inner  class // of a name
	digit         class
	quote, plain  class // plain: what stands for itself in a string
	single        class // marks of one byte
}

func newAlphabet() alphabet {
	return alphabet{
		blank:  oneOf("\t\n\r "),
		remark: not(oneOf("\n")),
		first:  letter,
		inner:  either(letter, digit),
		digit:  digit,
		quote:  oneOf("\""),
		plain:  not(oneOf("\"\\\n")),
		single: oneOf("(){}[],;.:=<>+-*/%&!"),
	}
}
