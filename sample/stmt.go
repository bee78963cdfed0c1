package sample

import (
	"slices"
	"strconv"
	"strings"
)

// body: statements, the last of which ends, if there are results.
func (a *author) body(deep int) string {
	text := a.several(deep)
	if len(a.results) > 0 {
		text += a.ending(deep)
	}
	return text
}

func (a *author) several(deep int) string {
	var out strings.Builder
	for range a.pick(4) {
		if a.left > 0 {
			out.WriteString(a.statement(deep))
		}
	}
	return out.String()
}

// inner: a block of statements, with something behind them that sees their variables.
func (a *author) inner(deep int, last func() string) string {
	a.scopes = append(slices.Clip(a.scopes), nil)
	text := "{\n" + a.several(deep-1) + last() + "}"
	a.scopes = a.scopes[:len(a.scopes)-1]
	return text
}

func nothing() string { return "" }

// ending: a statement that ends.
func (a *author) ending(deep int) string {
	again := func() string { return a.ending(deep - 1) }
	if deep > 0 {
		switch a.pick(8) {
		case 0:
			return a.inner(deep, again) + "\n"
		case 1:
			return "if " + a.condition(deep) + " " + a.inner(deep, again) + " else " + a.inner(deep, again) + "\n"
		case 2:
			return "if " + a.condition(deep) + " " + a.inner(deep, again) + "\n" + a.leave(deep)
		}
	}
	return a.leave(deep)
}

func (a *author) condition(deep int) string { return "(" + a.value("bool", deep) + ")" }

func (a *author) leave(deep int) string {
	if slices.Equal(a.results, []string{"int", "bool"}) && slices.Contains(a.declared, "two") && a.isFree("two") && a.rare(2) {
		return "return two(" + a.value("int", deep) + ");\n"
	}
	var list []string
	for _, text := range a.results {
		list = append(list, a.given(text, deep))
	}
	return strings.TrimSpace("return "+strings.Join(list, ", ")) + ";\n"
}

func (a *author) statement(deep int) string {
	a.left--
	switch kind := a.pick(20); {
	case kind < 2:
		return a.variable(deep)
	case kind < 5:
		return a.define(deep)
	case kind < 10:
		return a.assign(deep)
	case kind < 12:
		return a.action(deep)
	case kind < 14 && deep > 0:
		return a.choice(deep)
	case kind < 16 && deep > 0:
		return a.loop(deep)
	case kind == 16 && deep > 0:
		return a.inner(deep, nothing) + "\n"
	case kind == 17 && a.loops > 0:
		return "if " + a.condition(deep) + " { " + a.one([]string{"break;", "continue;"}) + " }\n"
	case kind == 18 && a.rare(4):
		return a.stopping(deep)
	}
	return a.printed(deep)
}

func (a *author) printed(deep int) string {
	if !a.isFree("print") {
		return ""
	}
	return "print(" + a.value(a.one([]string{"int", "int", "bool", "string"}), deep) + ");\n"
}

// stopping: what ends a call, a round or the run.
func (a *author) stopping(deep int) string {
	switch {
	case a.rare(3) && a.isFree("panic"):
		return "if " + a.condition(deep) + " { panic(" + a.value("int", deep) + "); }\n"
	case a.loops > 0:
		return a.one([]string{"break;\n", "continue;\n"})
	}
	return "if " + a.condition(deep) + " { " + a.leave(deep) + " }\n"
}

func (a *author) choice(deep int) string {
	text := "if " + a.condition(deep) + " " + a.inner(deep, nothing)
	for a.rare(3) {
		text += " else if " + a.condition(deep) + " " + a.inner(deep, nothing)
	}
	if a.rare(2) {
		text += " else " + a.inner(deep, nothing)
	}
	return text + "\n"
}

// loop: one that counts, or one that may go on for ever.
func (a *author) loop(deep int) string {
	a.loops++
	defer func() { a.loops-- }()
	if a.rare(12) {
		return "for " + a.condition(deep) + " " + a.inner(deep, nothing) + "\n"
	}
	if a.rare(6) {
		return "for " + a.inner(deep, func() string { return "if " + a.condition(deep) + " { break; }\n" }) + "\n"
	}
	name := "k" + strconv.Itoa(a.next())
	a.add(known{name, "int", true})
	a.scopes = append(slices.Clip(a.scopes), nil)
	body := a.several(deep - 1)
	a.scopes = a.scopes[:len(a.scopes)-1]
	return name + " := 0;\nfor " + name + " < " + strconv.Itoa(a.pick(5)) + " {\n" + name + " = " + name + " + 1;\n" + body + "}\n"
}

// name: a new one, or one that hides another.
func (a *author) name() string {
	if a.rare(4) {
		name := a.one(strings.Fields("x y z v1 v2 v3 one two made print len append S main"))
		inner := a.scopes[len(a.scopes)-1]
		isCommon := slices.Contains([]string{"print", "len", "append"}, name) && !a.rare(12)
		if !isCommon && !slices.ContainsFunc(inner, func(v known) bool { return v.name == name }) {
			return name
		}
	}
	return "w" + strconv.Itoa(a.next())
}

func (a *author) variable(deep int) string {
	text := a.one(types())
	value := " = " + a.given(text, deep)
	if a.rare(8) {
		value = ""
	}
	name := a.name()
	a.add(known{name, text, false})
	return "var " + name + " " + text + value + ";\n"
}

func (a *author) define(deep int) string {
	if kind := a.pick(8); kind < 3 {
		word := []string{"two", "three", "two"}[kind]
		results := [][]string{{"int", "bool"}, {"int", "string", "*S"}, {"int", "bool"}}[kind]
		call := []string{"two(#int)", "three(#string)", "#*T.two(#bool)"}[kind]
		if kind < 2 && slices.Contains(a.declared, word) && a.isFree(word) || kind == 2 && a.hasMethods {
			right := a.filled(call, deep)
			return strings.Join(a.fresh(results), ", ") + " := " + right + ";\n"
		}
	}
	var texts, values []string
	for range 1 + a.pick(3) {
		text := a.one(types())
		texts = append(texts, text)
		values = append(values, a.value(text, deep))
	}
	return strings.Join(a.fresh(texts), ", ") + " := " + strings.Join(values, ", ") + ";\n"
}

func (a *author) fresh(texts []string) []string {
	var out []string
	for _, text := range texts {
		name := a.name()
		a.add(known{name, text, false})
		out = append(out, name)
	}
	return out
}

func (a *author) assign(deep int) string {
	if a.rare(8) && slices.Contains(a.declared, "two") && a.isFree("two") {
		return a.place("int", deep) + ", " + a.place("bool", deep) + " = two(" + a.value("int", deep) + ");\n"
	}
	var to, from []string
	for range 1 + a.pick(3) {
		text := a.one(types())
		to = append(to, a.place(text, deep))
		from = append(from, a.given(text, deep))
	}
	return strings.Join(to, ", ") + " = " + strings.Join(from, ", ") + ";\n"
}

// action: a call, whatever its results are.
func (a *author) action(deep int) string {
	list := a.allowed([]string{"one(#int)", "two(#int)", "three(#string)", "change(#S, ~*S, #[]int)", "change(#S, &@S, #[]int)", "#I.M(#int)", "#*S.M(#int)", "@S.M(#int)", "@T.two(#bool)", "#J.N()", "#func()()", "#func(int) int(#int)",
		"#func(*S, int) (int, bool)(~*S, #int)", "#*T.h(#int)"})
	return a.filled(a.one(list), deep) + ";\n"
}
