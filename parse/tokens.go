package parse

import "halyard/api"

// end is the mark that stands behind a text's last token. No mark of a text is empty.
const end = ""

// parser goes through a text's tokens. In a head, ahead of the block of an if or for, a name with { behind it is no literal.
type parser struct {
	tokens []api.Token
	next   int
	head   bool
}

func newParser(list []api.Token, size int) *parser {
	return &parser{tokens: append(list, api.Token{Kind: api.TMark, Text: end, At: size})}
}

func (p *parser) token() api.Token { return p.tokens[p.next] }

// fault gives up; program catches it.
func (p *parser) fault() { panic(api.ErrText) }

// is: does this mark or word stand next? (A string's bytes may be those of a mark.)
func (p *parser) is(text string) bool {
	t := p.token()
	return (t.Kind == api.TMark || t.Kind == api.TWord) && t.Text == text
}

func (p *parser) take(text string) bool {
	if !p.is(text) {
		return false
	}
	p.next++
	return true
}

func (p *parser) need(text string) {
	if !p.take(text) {
		p.fault()
	}
}

func (p *parser) name() string {
	t := p.token()
	if t.Kind != api.TName {
		p.fault()
	}
	p.next++
	return t.Text
}

// upTo: items, as many as stand ahead of a mark.
func upTo[T any](p *parser, mark string, item func() T) []T {
	var list []T
	for !p.is(mark) {
		list = append(list, item())
	}
	return list
}

// commas: at least one item, and a comma between two.
func commas[T any](p *parser, item func() T) []T {
	list := []T{item()}
	for p.take(",") {
		list = append(list, item())
	}
	return list
}

// listed: items with commas between them, or none, between two brackets.
func listed[T any](p *parser, open, shut string, item func() T) []T {
	return between(p, open, shut, func() []T {
		if p.is(shut) {
			return nil
		}
		return commas(p, item)
	})
}

// between: what stands between two brackets; the rule of a head around them does not hold there.
func between[T any](p *parser, open, shut string, inner func() T) T {
	p.need(open)
	v := within(p, false, inner)
	p.need(shut)
	return v
}

func within[T any](p *parser, head bool, inner func() T) T {
	outer := p.head
	p.head = head
	v := inner()
	p.head = outer
	return v
}
