package calls

import (
	"slices"

	"halyard/api"
)

// direct is the Iface of a site that names its function.
const direct = -1

// within: is it one of the numbers 0 to count - 1?
func within(n, count int) bool { return n >= 0 && n < count }

func large(h api.Hier) bool {
	return h.Funcs > api.MaxFuncs || max(len(h.Classes), len(h.Ifaces)) > api.MaxTypes || len(h.Sites) > api.MaxTokens
}

func formed(h api.Hier) bool {
	if h.Funcs < 0 {
		return false
	}
	for _, c := range h.Classes {
		if !formedClass(c, h.Funcs) {
			return false
		}
	}
	ifaces := make([]map[string]int, len(h.Ifaces))
	for i, list := range h.Ifaces {
		ifaces[i] = places(list)
		if len(ifaces[i]) < len(list) {
			return false
		}
	}
	for _, s := range h.Sites {
		if !within(s.From, h.Funcs) || !formedCall(s, h.Funcs, ifaces) {
			return false
		}
	}
	return true
}

func formedClass(c api.Class, funcs int) bool {
	if len(c.Funcs) != len(c.Methods) || len(places(c.Methods)) < len(c.Methods) {
		return false
	}
	return !slices.ContainsFunc(c.Funcs, func(f int) bool { return !within(f, funcs) })
}

// places: where each name stands in a list; they are fewer than the list's if one stands there twice.
func places(names []string) map[string]int {
	all := make(map[string]int, len(names))
	for i, name := range names {
		all[name] = i
	}
	return all
}

// formedCall: is what the site calls a function, or a method of an interface?
func formedCall(s api.Site, funcs int, ifaces []map[string]int) bool {
	if s.Iface < 0 {
		return s.Iface == direct && s.Method == "" && within(s.To, funcs)
	}
	if s.Iface >= len(ifaces) || s.To != 0 {
		return false
	}
	_, has := ifaces[s.Iface][s.Method]
	return has
}
