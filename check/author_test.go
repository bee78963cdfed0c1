package check_test

import (
	"math/rand"
	"slices"
	"strconv"
	"strings"
)

// An author writes programs at random that keep all rules.

type author struct {
	pick    *rand.Rand
	scopes  [][]known
	results []string
	loops   int
	count   int // of names that were made
	left    int // how many statements may still be written
}

// typePool: types that variables, parameters and results may have, as head declares them.
var typePool = strings.Split("int|bool|string|S|T|E|*S|*T|*E|I|J|U|[]int|[]S|[]*S|[]I|[]string|[][]int|*int|**S|*I|*[]int|func()|func(int) int|func(S) bool|func() *S|func(*S, int) (int, bool)|[]func(int) int", "|")

// fieldPool: what has a field of a type.
var fieldPool = map[string][][2]string{"int": {{"S", "a"}, {"T", "n"}}, "*S": {{"T", "s"}}, "[]int": {{"T", "l"}}, "func(int) int": {{"T", "h"}}}

// callPool: calls of one result, with the types of what is given; # stands for the next one.
var callPool = map[string][]string{
	"int": {"one(#int)", "len(#string)", "len(#[]int)", "len(#[]S)", "#func(int) int(#int)", "#string[#int]", "-#int", "(#int+#int)", "(#int-#int)", "(#int*#int)", "(#int/#int)", "(#int%#int)"},
	"bool": {"!#bool", "(#bool&&#bool)", "(#bool||#bool)", "(#int<#int)", "(#string>=#string)", "(#int==#int)", "(#string!=#string)", "(#*S==#*S)", "(#I==nil)", "(nil!=#[]int)", "(#func()==nil)", "(#U!=#U)", "(#**S==nil)",
		"#J.N(#int)", "#*T.N(#int)", "@T.N(#int)", "#func(S) bool(#S)", "(#bool==#bool)", "(#int<=#int)", "(#int>#int)", "(#string<#string)"},
	"string":        {"(#string+#string)", "#string[:]", "#string[#int:]", "#string[:#int]", "#string[#int:#int]"},
	"S":             {"mkS()"},
	"*S":            {"ptrS()", "#func() *S()"},
	"I":             {"mkI()"},
	"[]int":         {"mkL()", "append(#[]int, #int)", "#[]int[#int:]", "#[]int[:#int]"},
	"[]S":           {"append(#[]S, #S)", "#[]S[:]"},
	"[]*S":          {"append(#[]*S, ~*S)"},
	"[]I":           {"append(#[]I, ~I)", "#[]I[#int:#int]"},
	"func(int) int": {"mkF()", "one"},
	"func()":        {"none", "main"},
	"func() *S":     {"ptrS"},
}

// plainPool: what may always be written for a type.
var plainPool = map[string][]string{
	"int": {"0", "7", "9223372036854775807"}, "bool": {"true", "false"}, "string": {`""`, `"a\n"`}, "S": {"S{1}"}, "T": {"T{1, nil, nil, nil}"}, "E": {"E{}"}, "*S": {"&S{2}"}, "*T": {"&T{1, nil, nil, nil}"}, "*E": {"&E{}"},
	"[]int": {"[]int{}"}, "func()": {"none"}, "func(int) int": {"one"}, "func() *S": {"ptrS"}, "I": {"mkI()"},
}

func chosen[T any](pick *rand.Rand, list []T) T { return list[pick.Intn(len(list))] }

// visible: the variables that names mean, of a type.
func (a *author) visible(text string) []string {
	var out, hidden []string
	for i := len(a.scopes) - 1; i >= 0; i-- {
		for _, v := range a.scopes[i] {
			if v.text == text && !slices.Contains(hidden, v.name) {
				out = append(out, v.name)
			}
		}
		for _, v := range a.scopes[i] {
			hidden = append(hidden, v.name)
		}
	}
	return out
}

// value: an expression that is of this type itself.
func (a *author) value(text string, deep int) string {
	if vars := a.visible(text); len(vars) > 0 && a.pick.Intn(3) > 0 {
		return chosen(a.pick, vars)
	}
	if list := plainPool[text]; deep <= 0 && len(list) > 0 {
		return chosen(a.pick, list)
	}
	switch kind := a.pick.Intn(8); {
	case kind < 4 && len(callPool[text]) > 0 && deep > 0:
		return a.filled(chosen(a.pick, callPool[text]), deep)
	case kind == 4 && deep > 0:
		return a.place(text, deep)
	case kind == 5 && strings.HasPrefix(text, "*") && deep > 0:
		return "&" + a.place(text[1:], deep)
	case kind == 6 && len(fieldPool[text]) > 0 && deep > 0:
		f := chosen(a.pick, fieldPool[text])
		return a.value(f[0], deep-1) + "." + f[1]
	}
	return a.made(text, deep)
}

// made: a literal.
func (a *author) made(text string, deep int) string {
	switch {
	case text == "S":
		return "S{" + a.given("int", deep-1) + "}"
	case text == "T":
		return "T{" + a.given("int", deep-1) + ", " + a.given("*S", deep-1) + ", " + a.given("[]int", deep-1) + ", " + a.given("func(int) int", deep-1) + "}"
	case strings.HasPrefix(text, "[]"):
		var list []string
		for range a.pick.Intn(3) {
			list = append(list, a.given(text[2:], deep-1))
		}
		return text + "{" + strings.Join(list, ", ") + "}"
	case len(plainPool[text]) > 0 && !(strings.HasPrefix(text, "func(") && deep > 0):
		return chosen(a.pick, plainPool[text])
	case strings.HasPrefix(text, "func("):
		return a.literal(text, deep)
	case strings.HasPrefix(text, "*"):
		return "&[]" + text[1:] + "{}[0]"
	}
	return "[]" + text + "{}[" + a.value("int", deep-1) + "]"
}

// filled: a pattern, with values (#), places (@) and what may be given (~) for its types.
func (a *author) filled(pattern string, deep int) string {
	var out strings.Builder
	for pattern != "" {
		mark := pattern[0]
		if !strings.ContainsRune("#@~", rune(mark)) {
			out.WriteByte(mark)
			pattern = pattern[1:]
			continue
		}
		text := longest(pattern[1:])
		pattern = pattern[1+len(text):]
		switch mark {
		case '#':
			out.WriteString(operand(a.value(text, deep-1)))
		case '@':
			out.WriteString(operand(a.place(text, deep-1)))
		default:
			out.WriteString(a.given(text, deep-1))
		}
	}
	return out.String()
}

// operand: in brackets, so that operators around it do not cut it.
func operand(s string) string { return "(" + s + ")" }

// longest: the longest type of the pool that a text begins with.
func longest(s string) string {
	best := ""
	for _, text := range typePool {
		if strings.HasPrefix(s, text) && len(text) > len(best) {
			best = text
		}
	}
	return best
}

// place: a place of this type.
func (a *author) place(text string, deep int) string {
	vars := a.visible(text)
	if len(vars) > 0 && (deep <= 0 || a.pick.Intn(2) == 0) {
		return chosen(a.pick, vars)
	}
	switch kind := a.pick.Intn(4); {
	case kind == 0 && slices.Contains(typePool, "*"+text) && deep > 0:
		return "(*" + operand(a.value("*"+text, deep-1)) + ")"
	case kind == 1 && slices.Contains(typePool, "[]"+text) && deep > 0:
		return operand(a.value("[]"+text, deep-1)) + "[" + a.value("int", deep-1) + "]"
	case kind < 4 && len(fieldPool[text]) > 0 && deep > 0:
		f := chosen(a.pick, fieldPool[text])
		if a.pick.Intn(2) == 0 {
			return operand(a.place(f[0], deep-1)) + "." + f[1]
		}
		return operand(a.value("*"+f[0], deep-1)) + "." + f[1]
	}
	return "[]" + text + "{}[0]"
}

// given: what may be given to a place of this type.
func (a *author) given(text string, deep int) string {
	isNilable := strings.ContainsAny(text[:1], "*[IJU") || strings.HasPrefix(text, "func(")
	switch kind := a.pick.Intn(6); {
	case kind == 0 && isNilable:
		return "nil"
	case kind < 3 && text == "I":
		return a.value(chosen(a.pick, []string{"*S", "*T"}), deep)
	case kind < 3 && text == "J":
		return a.value("*T", deep)
	case kind < 3 && text == "U":
		return a.value(chosen(a.pick, []string{"*S", "*T", "*E"}), deep)
	}
	return a.value(text, deep)
}

// literal: a function literal of a type that is written as here.
func (a *author) literal(text string, deep int) string {
	params, results := parts(text)
	old := *a
	a.scopes = append(slices.Clip(a.scopes), nil)
	a.results, a.loops = results, 0
	var list []string
	for _, p := range params {
		name := a.name()
		list = append(list, name+" "+p)
		a.add(name, p)
	}
	a.left = min(old.left, a.pick.Intn(3))
	body := a.body(deep - 1)
	spent := a.count
	*a = old
	a.count = spent
	return "func(" + strings.Join(list, ", ") + ")" + text[closing(text)+1:] + body
}

// parts: parameters and results of a function type of the pool.
func parts(text string) (params, results []string) {
	end := closing(text)
	split := func(s string) []string {
		if s = strings.TrimSpace(s); s == "" {
			return nil
		}
		return strings.Split(s, ", ")
	}
	return split(text[len("func("):end]), split(strings.Trim(text[end+1:], " ()"))
}

// closing: where the parameters of a function type of the pool end.
func closing(text string) int { return strings.Index(text, ")") }

// name: a new one, or one that may hide another.
func (a *author) name() string {
	a.count++
	if a.pick.Intn(4) == 0 {
		name := chosen(a.pick, strings.Fields("n b s st p l i f g t one two print len append panic main S x y z"))
		if !slices.ContainsFunc(a.scopes[len(a.scopes)-1], func(v known) bool { return v.name == name }) && !a.used(name) {
			return name
		}
	}
	return "v" + strconv.Itoa(a.count)
}

// used: is it a function that the patterns call?
func (a *author) used(name string) bool {
	return slices.Contains([]string{"one", "len", "append", "main", "print", "panic", "two"}, name) && a.pick.Intn(50) > 0
}

func (a *author) add(name, text string) {
	last := len(a.scopes) - 1
	a.scopes[last] = append(slices.Clip(a.scopes[last]), known{name, text})
}

// body: a block that ends, if there are results.
func (a *author) body(deep int) string {
	return a.block(deep, func() string {
		if len(a.results) == 0 {
			return ""
		}
		return a.ending(deep)
	})
}

func (a *author) block(deep int, last func() string) string {
	a.scopes = append(slices.Clip(a.scopes), nil)
	var out strings.Builder
	out.WriteString(" { ")
	for range a.pick.Intn(5) {
		if a.left--; a.left > 0 {
			out.WriteString(a.statement(deep) + " ")
		}
	}
	out.WriteString(last() + " } ")
	a.scopes = a.scopes[:len(a.scopes)-1]
	return out.String()
}

func (a *author) inner(deep int) string { return a.block(deep-1, func() string { return "" }) }

// ending: a statement that ends.
func (a *author) ending(deep int) string {
	again := func() string { return a.ending(deep - 1) }
	switch kind := a.pick.Intn(8); {
	case kind == 0:
		return "panic(" + a.value("int", deep) + ");"
	case kind == 1 && deep > 0:
		return a.block(deep-1, again)
	case kind == 2 && deep > 0:
		return "if " + operand(a.value("bool", deep)) + a.block(deep-1, again) + "else" + a.block(deep-1, again)
	case kind == 3:
		return "for { }"
	}
	return a.leave(deep)
}

func (a *author) leave(deep int) string {
	if slices.Equal(a.results, []string{"int", "bool"}) && a.pick.Intn(2) == 0 {
		return "return two();"
	}
	var list []string
	for _, text := range a.results {
		list = append(list, a.given(text, deep))
	}
	return "return " + strings.Join(list, ", ") + ";"
}

func (a *author) statement(deep int) string {
	switch kind := a.pick.Intn(16); {
	case kind < 3:
		return a.declared(deep)
	case kind < 5:
		return a.defined(deep)
	case kind < 9:
		return a.assigned(deep)
	case kind == 9:
		return a.called(deep)
	case kind == 10 && deep > 0:
		s := "if " + operand(a.value("bool", deep)) + a.inner(deep)
		for a.pick.Intn(3) == 0 {
			s += "else if " + operand(a.value("bool", deep)) + a.inner(deep)
		}
		if a.pick.Intn(2) == 0 {
			s += "else" + a.inner(deep)
		}
		return s
	case kind == 11 && deep > 0:
		return a.loop(deep)
	case kind == 12 && deep > 0:
		return a.inner(deep)
	case kind == 13 && a.loops > 0:
		return chosen(a.pick, []string{"break;", "continue;"})
	case kind == 14:
		return a.leave(deep)
	}
	return "print(" + a.value(chosen(a.pick, []string{"int", "bool", "string"}), deep) + ");"
}

func (a *author) loop(deep int) string {
	head := "for "
	if a.pick.Intn(2) == 0 {
		head += operand(a.value("bool", deep))
	}
	a.loops++
	body := a.inner(deep)
	a.loops--
	return head + body
}

func (a *author) declared(deep int) string {
	text := chosen(a.pick, typePool)
	given := ""
	if a.pick.Intn(2) == 0 {
		given = " = " + a.given(text, deep)
	}
	name := a.name()
	a.add(name, text)
	return "var " + name + " " + text + given + ";"
}

func (a *author) defined(deep int) string {
	list := [][]string{{"int", "bool"}, {"int", "string", "*S"}}
	if kind := a.pick.Intn(8); kind < 2 {
		call := []string{"two()", "three(" + a.given("int", deep) + ")"}[kind]
		return strings.Join(a.fresh(list[kind]), ", ") + " := " + call + ";"
	}
	var texts, values []string
	for range 1 + a.pick.Intn(3) {
		text := chosen(a.pick, typePool)
		texts = append(texts, text)
		values = append(values, a.value(text, deep))
	}
	return strings.Join(a.fresh(texts), ", ") + " := " + strings.Join(values, ", ") + ";"
}

func (a *author) fresh(texts []string) []string {
	var out []string
	for _, text := range texts {
		name := a.name()
		a.add(name, text)
		out = append(out, name)
	}
	return out
}

func (a *author) assigned(deep int) string {
	if a.pick.Intn(8) == 0 {
		return a.place("int", deep) + ", " + a.place("bool", deep) + " = two();"
	}
	var to, from []string
	for range 1 + a.pick.Intn(2) {
		text := chosen(a.pick, typePool)
		to = append(to, a.place(text, deep))
		from = append(from, a.given(text, deep))
	}
	return strings.Join(to, ", ") + " = " + strings.Join(from, ", ") + ";"
}

func (a *author) called(deep int) string {
	return a.filled(chosen(a.pick, []string{"none()", "two()", "one(#int)", "takeI(~I, #int)", "#I.M()", "#*S.M()", "@S.M()", "@T.get()", "#*T.get()", "#J.M()", "#func()()", "#func(int) int(#int)", "three(#int)", "panic(#int)", "#func(*S, int) (int, bool)(~*S, #int)"}), deep) + ";"
}

func (a *author) addVariables() {
	for _, v := range strings.Split(strings.TrimSuffix(strings.TrimSpace(variables), ";"), ";") {
		words := strings.SplitN(strings.TrimSpace(v), " ", 3)
		a.add(words[1], words[2])
	}
}

// written: a whole program.
func written(pick *rand.Rand) string {
	a := &author{pick: pick, left: 25}
	var out strings.Builder
	out.WriteString(head)
	for i := range pick.Intn(3) {
		text := chosen(pick, []string{"func()", "func(int) int", "func(S) bool", "func() *S", "func(*S, int) (int, bool)"})
		out.WriteString("func extra" + strconv.Itoa(i) + strings.TrimPrefix(a.literal(text, 3), "func"))
	}
	out.WriteString("func main() {")
	a.scopes = [][]known{nil}
	if pick.Intn(2) == 0 {
		out.WriteString(variables)
		a.addVariables()
	}
	out.WriteString(a.body(3) + "}")
	return out.String()
}
