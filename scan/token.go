package scan

import (
	"strconv"
	"strings"

	"halyard/api"
)

// reader reads the forms of a text. Its methods for forms answer the token that begins at a place, where it ends, and whether it is right.
type reader struct {
	alphabet
	src string
}

func newReader(src string) reader {
	return reader{alphabet: newAlphabet(), src: src}
}

// skip: the first place from at on where no blank stands.
func (r reader) skip(at int) int {
	for {
		at = r.blank.end(r.src, at)
		if !strings.HasPrefix(r.src[at:], "//") {
			return at
		}
		at = r.remark.end(r.src, at)
	}
}

// token reads whatever form stands at a place, which must be within the text.
func (r reader) token(at int) (api.Token, int, bool) {
	switch b := r.src[at]; {
	case r.first(b):
		return r.name(at)
	case r.digit(b):
		return r.number(at)
	case r.quote(b):
		return r.text(at)
	}
	return r.mark(at)
}

func (r reader) name(at int) (api.Token, int, bool) {
	end := r.inner.end(r.src, at)
	if end-at > api.MaxName {
		return api.Token{}, 0, false
	}
	// Cloned, so that a token shares no memory with the text that was handed in.
	name := strings.Clone(r.src[at:end])
	kind := api.TName
	if isWord(name) {
		kind = api.TWord
	}
	return api.Token{Kind: kind, Text: name, At: at}, end, true
}

func isWord(name string) bool {
	switch name {
	case "type", "struct", "interface", "func", "var", "if", "else", "for",
		"return", "break", "continue", "true", "false", "nil":
		return true
	}
	return false
}

func (r reader) number(at int) (api.Token, int, bool) {
	end := r.digit.end(r.src, at)
	nought := r.src[at] == '0' && end > at+1
	if nought || r.first.at(r.src, end) {
		return api.Token{}, 0, false
	}
	num, err := strconv.ParseInt(r.src[at:end], 10, 64)
	if err != nil {
		return api.Token{}, 0, false
	}
	return api.Token{Kind: api.TInt, Num: int(num), At: at}, end, true
}

func (r reader) text(at int) (api.Token, int, bool) {
	var meant strings.Builder
	place := at + 1
	for {
		end := r.plain.end(r.src, place)
		meant.WriteString(r.src[place:end])
		if meant.Len() > api.MaxLen {
			return api.Token{}, 0, false
		}
		if r.quote.at(r.src, end) {
			return api.Token{Kind: api.TStr, Text: meant.String(), At: at}, end + 1, true
		}
		b, size := escape(r.src[end:])
		if size == 0 {
			return api.Token{}, 0, false
		}
		meant.WriteByte(b)
		place = end + size
	}
}

// escape: the byte that the escape at the beginning of s means, and how long the escape is; 0: none stands there.
func escape(s string) (b byte, size int) {
	if len(s) < 2 || s[0] != '\\' {
		return 0, 0
	}
	switch s[1] {
	case 'n':
		return '\n', 2
	case 't':
		return '\t', 2
	case '"', '\\':
		return s[1], 2
	case 'x':
		return hexEscape(s)
	}
	return 0, 0
}

func hexEscape(s string) (b byte, size int) {
	if len(s) < 4 {
		return 0, 0
	}
	value, err := strconv.ParseUint(s[2:4], 16, 8)
	if err != nil {
		return 0, 0
	}
	return byte(value), 4
}

// mark: one of two bytes goes ahead of the one that it begins with.
func (r reader) mark(at int) (api.Token, int, bool) {
	size := 0
	if r.single(r.src[at]) {
		size = 1
	}
	if at+2 <= len(r.src) && isPair(r.src[at:at+2]) {
		size = 2
	}
	if size == 0 {
		return api.Token{}, 0, false
	}
	mark := strings.Clone(r.src[at : at+size])
	return api.Token{Kind: api.TMark, Text: mark, At: at}, at + size, true
}

func isPair(s string) bool {
	switch s {
	case ":=", "==", "!=", "<=", ">=", "&&", "||":
		return true
	}
	return false
}
