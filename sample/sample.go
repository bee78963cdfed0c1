// Package sample writes programs for tests: well typed ones, which do much and seldom trap; and who calls whom in others. What is chosen among is told by a function, so that one and the same choices make one and the same program.
package sample

import (
	"slices"
	"strconv"
	"strings"
)

// Program: a text of a program. Of pick(n) come numbers from 0 to n - 1; size is how many statements there are about.
func Program(pick func(n int) int, size int) string {
	a := &author{pick: pick, left: size}
	var out strings.Builder
	out.WriteString(declarations)
	for _, f := range methods() {
		out.WriteString(a.function(f, size/8))
	}
	a.hasMethods = true
	for _, f := range functions() {
		if a.pick(3) > 0 {
			out.WriteString(a.function(f, size/6))
			a.declared = append(a.declared, f.name)
		}
	}
	out.WriteString("func main() {\n" + a.main(size) + "}\n")
	return out.String()
}

// declarations: each kind of type is a field's.
const declarations = `type S struct { a int; b bool; }
type T struct { n int; s *S; l []int; h func(int) int; i I; t *T; c string; }
type E struct { }
type I interface { M(n int) int; }
type J interface { M(n int) int; N() string; }
type U interface { }
func (e *E) none() { }
`

// signature: of a function or method, as it is written, with its parameters and the types of its results.
type signature struct {
	name, head string
	params     []known
	results    []string
}

// methods: those of one name have one type, as the interfaces ask.
func methods() []signature {
	return []signature{
		{"M", "func (s *S) M(n int) int", []known{{"s", "*S", false}, {"n", "int", false}}, []string{"int"}},
		{"M", "func (t *T) M(n int) int", []known{{"t", "*T", false}, {"n", "int", false}}, []string{"int"}},
		{"N", "func (t *T) N() string", []known{{"t", "*T", false}}, []string{"string"}},
		{"two", "func (t *T) two(b bool) (int, bool)", []known{{"t", "*T", false}, {"b", "bool", false}}, []string{"int", "bool"}},
	}
}

func functions() []signature {
	return []signature{
		{"one", "func one(n int) int", []known{{"n", "int", false}}, []string{"int"}},
		{"two", "func two(n int) (int, bool)", []known{{"n", "int", false}}, []string{"int", "bool"}},
		{"three", "func three(c string) (int, string, *S)", []known{{"c", "string", false}}, []string{"int", "string", "*S"}},
		{"made", "func made(n int) S", []known{{"n", "int", false}}, []string{"S"}},
		{"next", "func next(p *S, n int) *S", []known{{"p", "*S", false}, {"n", "int", false}}, []string{"*S"}},
		{"some", "func some(b bool) I", []known{{"b", "bool", false}}, []string{"I"}},
		{"list", "func list(n int) []int", []known{{"n", "int", false}}, []string{"[]int"}},
		{"adder", "func adder(n int) func(int) int", []known{{"n", "int", false}}, []string{"func(int) int"}},
		{"change", "func change(s S, p *S, l []int)", []known{{"s", "S", false}, {"p", "*S", false}, {"l", "[]int", false}}, nil},
		{"ask", "func ask(i I, j J) bool", []known{{"i", "I", false}, {"j", "J", false}}, []string{"bool"}},
	}
}

// known is a variable. A fixed one is given nothing, so that the loop that counts with it ends.
type known struct {
	name, text string
	fixed      bool
}

// author writes; its fields tell of the place where it is at.
type author struct {
	pick       func(n int) int
	scopes     [][]known
	results    []string
	declared   []string // functions that may be called
	hasMethods bool
	loops      int
	count      int // of names that were made
	left       int // how many statements may still be written
}

func (a *author) one(list []string) string { return list[a.pick(len(list))] }

// rare: once in n times.
func (a *author) rare(n int) bool { return a.pick(n) == 0 }

func (a *author) function(f signature, size int) string {
	a.scopes, a.results, a.loops, a.left = [][]known{f.params}, f.results, 0, size
	body := a.body(3)
	return f.head + " {\n" + body + "}\n"
}

// main: variables of many types, statements, and what the variables are in the end.
func (a *author) main(size int) string {
	a.scopes, a.results, a.loops, a.left = [][]known{nil}, nil, 0, size
	var out strings.Builder
	for _, text := range types() {
		if a.pick(4) > 0 {
			name := "v" + strconv.Itoa(a.next())
			out.WriteString("var " + name + " " + text + " = " + a.made(text, 2) + ";\n")
			a.add(known{name, text, false})
		}
	}
	for a.left > 0 {
		out.WriteString(a.statement(3))
	}
	if a.isFree("print") && a.isFree("len") {
		for _, v := range slices.Concat(a.scopes...) {
			out.WriteString(shown(v))
		}
	}
	return out.String()
}

// shown: what a variable is, as far as it can be printed.
func shown(v known) string {
	switch v.text {
	case "int", "bool", "string":
		return "print(" + v.name + ");\n"
	case "S":
		return "print(" + v.name + ".a); print(" + v.name + ".b);\n"
	case "*S":
		return "if " + v.name + " != nil { print(" + v.name + ".a); }\n"
	case "T":
		return "print(" + v.name + ".n); print(len(" + v.name + ".l)); print(" + v.name + ".s == nil); print(" + v.name + ".c);\n"
	case "[]int":
		return "print(len(" + v.name + ")); { i := 0; for i < len(" + v.name + ") { print(" + v.name + "[i]); i = i + 1; } }\n"
	case "[]S":
		return "{ i := 0; for i < len(" + v.name + ") { print(" + v.name + "[i].a); i = i + 1; } }\n"
	case "*int":
		return "if " + v.name + " != nil { print(*" + v.name + "); }\n"
	case "I", "J":
		return "if " + v.name + " != nil { print(" + v.name + ".M(1)); }\n"
	case "func(int) int":
		return "if " + v.name + " != nil { print(" + v.name + "(2)); }\n"
	}
	return ""
}

func (a *author) next() int {
	a.count++
	return a.count
}

func (a *author) add(v known) {
	last := len(a.scopes) - 1
	a.scopes[last] = append(slices.Clip(a.scopes[last]), v)
}

// visible: the variables that names mean, of a type.
func (a *author) visible(text string, asPlace bool) []string {
	var out, hidden []string
	for _, scope := range slices.Backward(a.scopes) {
		for _, v := range scope {
			if v.text == text && !slices.Contains(hidden, v.name) && !(v.fixed && asPlace) {
				out = append(out, v.name)
			}
		}
		for _, v := range scope {
			hidden = append(hidden, v.name)
		}
	}
	return out
}

// isFree: does a name mean no variable here?
func (a *author) isFree(name string) bool {
	return !slices.ContainsFunc(slices.Concat(a.scopes...), func(v known) bool { return v.name == name })
}
