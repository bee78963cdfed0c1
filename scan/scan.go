// Package scan cuts a program's text into tokens.
package scan

import "halyard/api"

// Scan: a text's tokens; with an error the place of the fault.
func Scan(src string) (list []api.Token, at int, e api.Errno) {
	if len(src) > api.MaxText {
		return nil, 0, api.ErrLong
	}
	r := newReader(src)
	for at = r.skip(0); at < len(src); at = r.skip(at) {
		if len(list) == api.MaxTokens {
			return nil, at, api.ErrLarge
		}
		token, end, ok := r.token(at)
		if !ok {
			return nil, at, api.ErrText
		}
		list = append(list, token)
		at = end
	}
	return list, 0, api.OK
}

// Name: is it a name?
func Name(s string) bool {
	if s == "" || len(s) > api.MaxName || digit(s[0]) || isWord(s) {
		return false
	}
	for i := range len(s) {
		if !letter(s[i]) && !digit(s[i]) {
			return false
		}
	}
	return true
}
