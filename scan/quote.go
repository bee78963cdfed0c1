package scan

const hexDigits = "0123456789abcdef"

// Quote: a text as a literal.
func Quote(s string) string {
	shown := between(32, 126)
	out := []byte{'"'}
	for i := range len(s) {
		out = appendQuoted(out, s[i], shown)
	}
	return string(append(out, '"'))
}

func appendQuoted(out []byte, b byte, shown class) []byte {
	switch {
	case b == '\n':
		return append(out, '\\', 'n')
	case b == '\t':
		return append(out, '\\', 't')
	case b == '"' || b == '\\':
		return append(out, '\\', b)
	case shown(b):
		return append(out, b)
	}
	return append(out, '\\', 'x', hexDigits[b>>4], hexDigits[b&15])
}
