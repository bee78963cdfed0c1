package sample

import "strings"

// types: those that variables have. None is a beginning of another one that stands behind it.
func types() []string {
	return []string{"int", "bool", "string", "S", "T", "E", "*int", "*bool", "*string", "*S", "*T", "*E", "**S", "*I", "*[]int", "I", "J", "U", "[]int", "[]bool", "[]string", "[]S", "[]*S", "[]I", "[][]int", "[]func(int) int",
		"func(*S, int) (int, bool)", "func(int) int", "func(S) S", "func() *S", "func()"}
}

// beginning: the type of those that a pattern begins with.
func beginning(pattern string) string {
	best := ""
	for _, text := range types() {
		if strings.HasPrefix(pattern, text) && len(text) > len(best) {
			best = text
		}
	}
	return best
}

// field of a struct, and the struct.
type field struct{ of, name string }

func fields(text string) []field {
	switch text {
	case "int":
		return []field{{"S", "a"}, {"T", "n"}, {"S", "a"}}
	case "bool":
		return []field{{"S", "b"}}
	case "string":
		return []field{{"T", "c"}}
	case "*S":
		return []field{{"T", "s"}}
	case "*T":
		return []field{{"T", "t"}}
	case "I":
		return []field{{"T", "i"}}
	case "[]int":
		return []field{{"T", "l"}}
	case "func(int) int":
		return []field{{"T", "h"}}
	}
	return nil
}

// patterns: expressions of a type; # stands ahead of the type of a value, @ of a place, ~ of what may be given to a place; | between them.
func patterns(text string) []string {
	all := ""
	switch text {
	case "int":
		all = numberPatterns
	case "bool":
		all = truthPatterns
	case "string":
		all = "#string+#string|#string+#string|#string[:]|#string[0:]|(#string+\"xy\")[:1]|(#string+\"z\")[1:]|(\"pqr\"+#string)[1:3]|append(#[]string, #string)[0]|#J.N()|#*T.N()|@T.N()"
	case "S":
		all = "made(#int)|#func(S) S(#S)|*#*S|append(#[]S, #S)[0]|append(append(#[]S, #S), #S)[1]"
	case "*S":
		all = "next(~*S, #int)|#func() *S()|&@S|&@S|&append(#[]S, #S)[0]|*#**S|append(#[]*S, #*S)[0]"
	case "*int":
		all = "&@int|&@int|&append(#[]int, #int)[0]|&#*S.a|&@S.a"
	case "*bool":
		all = "&@bool|&#*S.b|&append(#[]bool, #bool)[0]"
	case "*string", "*T", "*E", "**S", "*I", "*[]int":
		all = "&@" + text[1:]
	case "I":
		all = "some(#bool)|append(#[]I, ~I)[0]|*#*I"
	case "[]int":
		all = "list(#int)|append(#[]int, #int)|append(#[]int, #int)|append(append(#[]int, 1), #int)|append(#[]int, #int)[1:]|append(#[]int, #int)[:1]|#[]int[:]|#[]int[0:0]|append(append(#[]int, #int), #int)[1:2]|append(#[][]int, #[]int)[0]|*#*[]int"
	case "func(int) int":
		all = "adder(#int)|append(#[]func(int) int, #func(int) int)[0]|one"
	case "func() *S", "func()":
		return nil
	default:
		if strings.HasPrefix(text, "[]") {
			all = "append(#" + text + ", ~" + text[2:] + ")|append(#" + text + ", ~" + text[2:] + ")|append(#" + text + ", ~" + text[2:] + ")[1:]|#" + text + "[:0]|#" + text + "[:]"
		}
	}
	if all == "" {
		return nil
	}
	return strings.Split(all, "|")
}

const numberPatterns = "one(#int)|len(#string)|len(#[]int)|len(#[]S)|len(#[][]int)|#func(int) int(#int)|(#string+\"a\")[0]|append(#[]int, #int)[0]|append(append(#[]int, #int), #int)[1]|#[]int[#int]|-#int|#int+#int|#int+#int|#int-#int|#int*#int|#int/3|#int%5|#int/#int|#int%#int|" +
	"#*S.M(#int)|@S.M(#int)|#I.M(#int)|#J.M(#int)|@T.M(#int)|*#*int|#*S.a|#S.a|#*T.n|append(#[]S, #S)[0].a|append(#[]*S, #*S)[0].a"

const truthPatterns = "!#bool|#bool && #bool|#bool or #bool|#int<#int|#int<=#int|#int>#int|#int>=#int|#int==#int|#int!=#int|#string<#string|#string>=#string|#string==#string|#string!=#string|#bool==#bool|#*S==#*S|#*S!=#*S|#*int==#*int|#I==#I|#U!=#U|#I==nil|#J!=nil|" +
	"nil!=#[]int|#[]S==nil|#func(int) int==nil|#**S!=nil|#*E==#*E|ask(~I, ~J)|*#*bool|append(#[]bool, #bool)[0]|#S.b"

// plain: what may always be written for a type.
func plain(text string) []string {
	switch text {
	case "int":
		return []string{"0", "1", "2", "3", "7", "-1", "100", "9223372036854775807"}
	case "bool":
		return []string{"true", "false"}
	case "string":
		return []string{`""`, `"a"`, `"bc"`, `"\n\x00\xff"`}
	case "E":
		return []string{"E{}"}
	case "*S":
		return []string{"&S{2, true}"}
	case "*T":
		return []string{`&T{1, &S{4, false}, []int{8}, func(n int) int { return n + 1; }, &S{5, true}, nil, "t"}`}
	case "*E":
		return []string{"&E{}"}
	case "I":
		return []string{"[]I{&S{3, true}}[0]"}
	case "J":
		return []string{`[]J{&T{2, nil, nil, nil, nil, nil, ""}}[0]`}
	case "U":
		return []string{"[]U{&E{}}[0]", "[]U{&S{6, true}, nil}[1]"}
	}
	return nil
}
