package sample

import (
	"slices"
	"strconv"
	"strings"
)

// value: an expression that is of this type itself.
func (a *author) value(text string, deep int) string {
	if list := a.visible(text, false); len(list) > 0 && a.pick(3) > 0 {
		return a.one(list)
	}
	if list := plain(text); len(list) > 0 && (deep <= 0 || a.rare(6)) {
		return a.one(list)
	}
	if list := a.allowed(patterns(text)); len(list) > 0 && deep > 0 && a.pick(4) > 0 {
		return a.filled(a.one(list), deep)
	}
	if deep > 0 && a.rare(4) {
		return a.place(text, deep)
	}
	return a.made(text, deep)
}

// allowed: those patterns that call what may be called here.
func (a *author) allowed(list []string) []string {
	return slices.DeleteFunc(list, func(pattern string) bool {
		word := pattern
		if end := strings.Index(pattern, "("); end >= 0 {
			word = pattern[:end]
		}
		isMethod := strings.Contains(pattern, ".M(") || strings.Contains(pattern, ".N(") || strings.Contains(pattern, ".two(")
		isFunction := slices.ContainsFunc(functions(), func(f signature) bool { return f.name == word })
		isHidden := strings.Contains(pattern, "append(") && !a.isFree("append") || strings.Contains(pattern, "len(") && !a.isFree("len") || isFunction && !a.isFree(word)
		return isMethod && !a.hasMethods || isFunction && !slices.Contains(a.declared, word) || isHidden
	})
}

// filled: a pattern with something for each of its types.
func (a *author) filled(pattern string, deep int) string {
	var out strings.Builder
	for pattern != "" {
		mark := pattern[0]
		if mark != '#' && mark != '@' && mark != '~' {
			out.WriteByte(mark)
			pattern = pattern[1:]
			continue
		}
		text := beginning(pattern[1:])
		pattern = pattern[1+len(text):]
		switch mark {
		case '#':
			out.WriteString("(" + a.value(text, deep-1) + ")")
		case '@':
			out.WriteString("(" + a.place(text, deep-1) + ")")
		default:
			out.WriteString(a.given(text, deep-1))
		}
	}
	return "(" + strings.ReplaceAll(out.String(), " or ", " || ") + ")"
}

// place: a variable mostly, for others trap.
func (a *author) place(text string, deep int) string {
	list := a.visible(text, true)
	if len(list) > 0 && (deep <= 0 || a.pick(3) > 0) {
		return a.one(list)
	}
	deep = max(deep, 0)
	switch found := fields(text); a.pick(3) {
	case 0:
		if slices.Contains(types(), "*"+text) {
			return "(*" + a.value("*"+text, deep-1) + ")"
		}
	case 1:
		if slices.Contains(types(), "[]"+text) {
			return a.element(text, deep-1)
		}
	default:
		if len(found) > 0 {
			f := found[a.pick(len(found))]
			return "(" + a.value("*"+f.of, deep-1) + ")." + f.name
		}
	}
	if len(list) > 0 {
		return a.one(list)
	}
	return "[]" + text + "{" + a.made(text, 0) + "}[0]"
}

// element: of a list, which mostly has one.
func (a *author) element(text string, deep int) string {
	if a.rare(8) || !a.isFree("append") {
		return "(" + a.value("[]"+text, deep) + ")[" + a.one([]string{"0", "1", "2"}) + "]"
	}
	return "append(" + a.value("[]"+text, deep) + ", " + a.given(text, 0) + ")[0]"
}

// given: what may be given to a place of this type.
func (a *author) given(text string, deep int) string {
	isNilable := strings.Contains("*[IJU", text[:1]) || strings.HasPrefix(text, "func(")
	if isNilable && a.rare(16) {
		return "nil"
	}
	if a.pick(2) == 0 {
		switch text {
		case "I":
			return a.value(a.one([]string{"*S", "*T"}), deep)
		case "J":
			return a.value("*T", deep)
		case "U":
			return a.value(a.one([]string{"*S", "*T", "*E"}), deep)
		}
	}
	return a.value(text, deep)
}

// made: a literal, or what is made of one.
func (a *author) made(text string, deep int) string {
	switch {
	case text == "S":
		return "S{" + a.given("int", deep-1) + ", " + a.given("bool", deep-1) + "}"
	case text == "T":
		var list []string
		for _, field := range []string{"int", "*S", "[]int", "func(int) int", "I", "*T", "string"} {
			list = append(list, a.given(field, deep-2))
		}
		return "T{" + strings.Join(list, ", ") + "}"
	case strings.HasPrefix(text, "[]"):
		var list []string
		for range a.pick(4) + 1 {
			list = append(list, a.given(text[2:], deep-1))
		}
		return text + "{" + strings.Join(list, ", ") + "}"
	case strings.HasPrefix(text, "func("):
		return a.literal(text, deep)
	case len(plain(text)) > 0:
		return a.one(plain(text))
	}
	return "&[]" + text[1:] + "{" + a.made(text[1:], deep-1) + "}[0]"
}

// literal: a function literal of a type.
func (a *author) literal(text string, deep int) string {
	params, results := parts(text)
	old := *a
	a.scopes = append(slices.Clip(a.scopes), nil)
	a.results, a.loops = results, 0
	var list []string
	for _, p := range params {
		name := "p" + strconv.Itoa(a.next())
		list = append(list, name+" "+p)
		a.add(known{name, p, false})
	}
	a.left = min(old.left, a.pick(4))
	body := a.body(min(deep, 2) - 1)
	count := a.count
	*a = old
	a.count = count
	return "func(" + strings.Join(list, ", ") + ")" + text[strings.Index(text, ")")+1:] + " {\n" + body + "}"
}

// parts: the types of parameters and results of a function type.
func parts(text string) (params, results []string) {
	end := strings.Index(text, ")")
	return split(text[len("func("):end]), split(strings.Trim(text[end+1:], " ()"))
}

func split(list string) []string {
	if list == "" {
		return nil
	}
	return strings.Split(list, ", ")
}
