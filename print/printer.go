package print

import (
	"strings"

	"halyard/api"
)

// printer writes tokens, one behind the other. It writes sound trees alone: it does not look at their form again.
type printer struct {
	strings.Builder
	blank bool // stands a blank ahead of the next token?
}

func (p *printer) text() (string, api.Errno) {
	if p.tooLong() {
		return "", api.ErrLarge
	}
	return p.String(), api.OK
}

func (p *printer) tooLong() bool { return p.Len() > api.MaxText }

func (p *printer) put(tokens ...string) {
	for _, token := range tokens {
		p.putOne(token)
	}
}

// putOne: a text that is too long is not answered, so that it need not grow any more.
func (p *printer) putOne(token string) {
	if p.tooLong() {
		return
	}
	if p.blank {
		p.WriteByte(' ')
	}
	p.WriteString(token)
	p.blank = !endsLine(token)
	if !p.blank {
		p.WriteByte('\n')
	}
}

// endsLine: a string's token has its quotes, so it is none of these.
func endsLine(token string) bool { return token == "{" || token == "}" || token == ";" }

// writing writes a node of one sort.
type writing func(n api.Node)

func each(list []api.Node, write writing) {
	for _, n := range list {
		write(n)
	}
}

func (p *printer) commas(list []api.Node, write writing) {
	for i, n := range list {
		if i > 0 {
			p.put(",")
		}
		write(n)
	}
}

// listed: with commas, between two brackets.
func (p *printer) listed(open, shut string, list []api.Node, write writing) {
	p.put(open)
	p.commas(list, write)
	p.put(shut)
}

// members: one behind the other, between { and }.
func (p *printer) members(list []api.Node, write writing) {
	p.put("{")
	each(list, write)
	p.put("}")
}
