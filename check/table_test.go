package check_test

import (
	"reflect"
	"strconv"
	"strings"
	"testing"

	"halyard/api"
	"halyard/check"
)

// P5.1

var (
	intT  = api.Type{Kind: api.KInt}
	boolT = api.Type{Kind: api.KBool}
	strT  = api.Type{Kind: api.KStr}
)

func named(s string) api.Type               { return api.Type{Kind: api.KName, Name: s} }
func ptr(t api.Type) api.Type               { return api.Type{Kind: api.KPtr, Kids: []api.Type{t}} }
func slice(t api.Type) api.Type             { return api.Type{Kind: api.KSlice, Kids: []api.Type{t}} }
func fn(n int, l ...api.Type) api.Type      { return api.Type{Kind: api.KFunc, Num: n, Kids: l} }
func member(s string, t api.Type) api.Field { return api.Field{Name: s, Type: t} }
func memberList(l ...api.Field) []api.Field { return l }
func tables(t *testing.T, src string) []api.Decl {
	t.Helper()
	got, e := check.Table(parsed(t, src))
	if e != api.OK {
		t.Errorf("Table: %d: %s", e, src)
	}
	return got
}

func TestTable(t *testing.T) {
	for src, want := range map[string][]api.Decl{
		"":                         nil,
		"func f() { }":             nil,
		"type S struct { }":        {{Name: "S"}},
		"type I interface { }":     {{Name: "I", Iface: true}},
		"type A struct { a int; }": {{Name: "A", Fields: memberList(member("a", intT))}},
		"type A struct { c string; b bool; a int; }":          {{Name: "A", Fields: memberList(member("c", strT), member("b", boolT), member("a", intT))}},
		"type I interface { b(); a(x int, y *I) (bool, I); }": {{Name: "I", Iface: true, Methods: memberList(member("b", fn(0)), member("a", fn(2, intT, ptr(named("I")), boolT, named("I"))))}},
		"type A struct { a *B; } type B struct { a []A; f func(A) B; }": {
			{Name: "A", Fields: memberList(member("a", ptr(named("B"))))},
			{Name: "B", Fields: memberList(member("a", slice(named("A"))), member("f", fn(1, named("A"), named("B"))))}},
		"type S struct { a int; } func (s *S) m() { } type I interface { m(); } func (s *S) k(n int) int { return n; }": {
			{Name: "S", Fields: memberList(member("a", intT)), Methods: memberList(member("m", fn(0)), member("k", fn(1, intT, intT)))},
			{Name: "I", Iface: true, Methods: memberList(member("m", fn(0)))}},
		"func (b *B) z(s S) { } type B struct { } func (s *S) y() { } func (b *B) a() *B { } type S struct { } func (x *B) m(b B) (int, B) { }": {
			{Name: "B", Methods: memberList(member("z", fn(1, named("S"))), member("a", fn(0, ptr(named("B")))), member("m", fn(1, named("B"), intT, named("B"))))},
			{Name: "S", Methods: memberList(member("y", fn(0)))}},
	} {
		if got := tables(t, src); len(got) != len(want) || len(got) > 0 && !reflect.DeepEqual(got, want) {
			t.Errorf("Table of %q: %v; want %v", src, got, want)
		}
	}
}

// Table looks at no function's or method's body, and at no main.
func TestTableAlone(t *testing.T) {
	for _, src := range []string{"func f() int { } func f() { } func print() { }", "type S struct { } func (s *S) m(s int, s int) int { x = 1; break; }", "func f(a Z) Z { }", "type I interface { m(a int, a int); }"} {
		tables(t, src)
		if e := check.Check(parsed(t, src)); e != api.ErrType {
			t.Errorf("Check: %d: %s", e, src)
		}
	}
}

func many(count int, made func(i string) string) string {
	var out strings.Builder
	for i := range count {
		out.WriteString(made(strconv.Itoa(i)))
	}
	return out.String()
}

func structs(count int) string {
	return many(count, func(i string) string { return "type T" + i + " struct { } " })
}
func fieldsOf(name string, count int) string {
	return "type " + name + " struct { " + many(count, func(i string) string { return "f" + i + " int; " }) + "} "
}
func faceOf(name string, count int) string {
	return "type " + name + " interface { " + many(count, func(i string) string { return "m" + i + "(); " }) + "} "
}
func methodsOf(name string, count int) string {
	return many(count, func(i string) string { return "func (x *" + name + ") m" + i + "() { } " })
}

// tells: Table and Check answer this error, and Table nothing beside one.
func tells(t *testing.T, src string, want api.Errno) {
	t.Helper()
	n := parsed(t, src+" func main() { }")
	if got, e := check.Table(n); e != want || e != api.OK && len(got) > 0 {
		t.Errorf("Table: %d, %d declarations; want %d: %.300s", e, len(got), want, src)
	}
	if e := check.Check(n); e != want {
		t.Errorf("Check: %d; want %d: %.300s", e, want, src)
	}
}

func TestTableFaults(t *testing.T) {
	for _, src := range []string{
		"func (s *S) m() { }", "func (s *int) m() { }", "func (s *bool) m() { }", "func (s *string) m() { }", "type I interface { } func (i *I) m() { }", "func S() { } func (s *S) m() { }", "type s struct { } func (s *S) m() { }",
		"type S struct { } func (s *S) m() { } func (z *Z) m() { }", "func (z *Z) m() { } type S struct { } func (s *S) m() { }",
		"type S struct { } type S struct { }", "type S struct { } type T struct { } type S interface { }", "type I interface { } type I interface { }", "type int struct { }", "type bool struct { }", "type string interface { }", "type int struct { } func (s *int) m() { }",
		"type S struct { a int; b int; a bool; }", "type I interface { a(); b(); a(); }", "type S struct { } func (s *S) m() { } func (s *S) m() { }", "type S struct { m int; } func (s *S) m() { }", "func (s *S) m() { } func (s *S) n() { } type S struct { n int; }",
		"type S struct { a Z; }", "type S struct { a *Z; }", "type S struct { a []Z; }", "type S struct { a func(int, Z); }", "type S struct { a func() Z; }", "type I interface { m(a Z); }", "type I interface { m() Z; }", "type S struct { } func (s *S) m(a Z) { }", "type S struct { } func (s *S) m() *Z { }",
		"type S struct { a S; }", "type S struct { a T; } type T struct { }", "type T struct { } type S struct { b int; a T; }", "type S struct { a main; }",
	} {
		tells(t, src, api.ErrType)
	}
}

func TestTableLimits(t *testing.T) {
	for _, src := range []string{structs(api.MaxTypes), fieldsOf("S", api.MaxFields), faceOf("I", api.MaxFields), "type S struct { } " + methodsOf("S", api.MaxFields), fieldsOf("S", api.MaxFields) + methodsOf("S", api.MaxFields),
		structs(api.MaxTypes-2) + faceOf("I", 1) + fieldsOf("S", 1), "type S struct { } " + fieldsOf("T", api.MaxFields) + methodsOf("S", api.MaxFields/2) + methodsOf("T", api.MaxFields)} {
		tells(t, src, api.OK)
	}
	if got := tables(t, structs(api.MaxTypes)); len(got) != api.MaxTypes || got[api.MaxTypes-1].Name != "T1023" {
		t.Errorf("Table: %d declarations", len(got))
	}
	for _, src := range []string{structs(api.MaxTypes + 1), fieldsOf("S", api.MaxFields+1), faceOf("I", api.MaxFields+1), "type S struct { } " + methodsOf("S", api.MaxFields+1), methodsOf("S", api.MaxFields+1) + fieldsOf("S", 3),
		structs(api.MaxTypes-1) + fieldsOf("A", 0) + faceOf("I", 0)} {
		tells(t, src, api.ErrLarge)
	}
}

// A method's type is looked at first; then what is too large, then all else.
func TestTableOrder(t *testing.T) {
	large := []string{structs(api.MaxTypes + 1), fieldsOf("S", api.MaxFields+1), faceOf("I", api.MaxFields+1), "type R struct { } " + methodsOf("R", api.MaxFields+1)}
	for _, l := range large {
		for _, first := range []string{"func (z *Z) m() { } ", "type K interface { } func (k *K) m() { } "} {
			tells(t, l+first, api.ErrType)
			tells(t, first+l, api.ErrType)
		}
		for _, later := range []string{"type int struct { } ", "type A struct { } type A struct { } ", "type A struct { a A; } ", "type A struct { a Z; } ", "type A struct { a int; a int; } ", "func f() int { } ", "func f(a Z) { x = 1; } ", "func print() { } ", "func main() { } "} {
			tells(t, l+later, api.ErrLarge)
			tells(t, later+l, api.ErrLarge)
		}
	}
}
