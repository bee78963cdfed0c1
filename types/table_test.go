package types_test

import (
	"math"
	"slices"
	"strconv"
	"strings"
	"testing"

	"halyard/api"
	"halyard/types"
)

func fields(l ...api.Field) []api.Field { return l }

// some: a struct of one name, with these fields and methods.
func some(fields, methods []api.Field) []api.Decl {
	return []api.Decl{{Name: "A", Fields: fields, Methods: methods}}
}

func manyFields(n int, t api.Type) []api.Field {
	var out []api.Field
	for i := range n {
		out = append(out, field("f"+strconv.Itoa(i), t))
	}
	return out
}

func manyMethods(n int) []api.Field {
	var out []api.Field
	for i := range n {
		out = append(out, field("m"+strconv.Itoa(i), fn(0)))
	}
	return out
}

func manyDecls(n int) []api.Decl {
	var out []api.Decl
	for i := range n {
		out = append(out, api.Decl{Name: "T" + strconv.Itoa(i), Iface: i%2 == 1})
	}
	return out
}

// soundTables: P4.3, what is fine.
func soundTables() map[string][]api.Decl {
	deep := deepType(api.MaxDepth)
	return map[string][]api.Decl{
		"none":                         nil,
		"a struct without anything":    some(nil, nil),
		"an interface without methods": {{Name: "I", Iface: true}},
		"fields of each kind": some(fields(field("a", intT), field("b", boolT), field("c", strT), field("d", ptr(name("A"))),
			field("e", slice(name("A"))), field("f", fn(1, name("A"), name("A"))), field("g", slice(intT))), nil),
		"methods":                         some(nil, fields(field("a", fn(0)), field("b", fn(1, name("A"), name("A"))))),
		"a field of an interface":         {{Name: "A", Fields: fields(field("a", name("I")))}, {Name: "I", Iface: true}},
		"an interface of itself":          {{Name: "I", Iface: true, Methods: fields(field("m", fn(1, name("I"), name("I"))))}},
		"later ones":                      {{Name: "A", Fields: fields(field("a", ptr(name("B"))))}, {Name: "B", Fields: fields(field("a", ptr(name("A"))))}},
		"members of one name apart":       {{Name: "A", Fields: fields(field("a", intT))}, {Name: "B", Fields: fields(field("a", intT))}},
		"a member of a declared name":     some(fields(field("A", intT)), nil),
		"a member named int":              some(fields(field("int", intT)), fields(field("string", fn(0)))),
		"names that differ by a letter":   {{Name: "A"}, {Name: "a"}, {Name: "Int"}, {Name: "_"}, {Name: longName}},
		"a member with a long name":       some(fields(field(longName, intT)), nil),
		"as many declarations":            manyDecls(api.MaxTypes),
		"as many fields":                  some(manyFields(api.MaxFields, intT), nil),
		"as many methods":                 some(nil, manyMethods(api.MaxFields)),
		"as many of both":                 some(manyFields(api.MaxFields, intT), manyMethods(api.MaxFields)),
		"as many methods of an interface": {{Name: "I", Iface: true, Methods: manyMethods(api.MaxFields)}},
		"a deep type":                     some(fields(field("a", deep)), nil),
		"a wide type":                     some(fields(field("a", wideType(api.MaxNodes))), fields(field("b", wideType(api.MaxNodes)))),
	}
}

// largeTables, formTables, typeTables: P4.3, each fault.

func largeTables() map[string][]api.Decl {
	return map[string][]api.Decl{
		"a declaration too many":       manyDecls(api.MaxTypes + 1),
		"many without names":           make([]api.Decl, api.MaxTypes+1),
		"a field too many":             some(manyFields(api.MaxFields+1, intT), nil),
		"a method too many":            some(nil, manyMethods(api.MaxFields+1)),
		"a method of an interface":     {{Name: "A"}, {Name: "I", Iface: true, Methods: manyMethods(api.MaxFields + 1)}},
		"a field of the last":          append(manyDecls(api.MaxTypes-1), some(manyFields(api.MaxFields+1, intT), nil)...),
		"fields of an interface":       {{Name: "I", Iface: true, Fields: manyFields(api.MaxFields+1, intT)}},
		"ahead of a name":              {{Name: ""}, {Name: "A", Fields: manyFields(api.MaxFields+1, intT)}},
		"ahead of names of its fields": some(make([]api.Field, api.MaxFields+1), nil),
		"ahead of two of one name":     {{Name: "A"}, {Name: "A"}, {Name: "B", Methods: manyMethods(api.MaxFields + 1)}},
	}
}

func formTables() map[string][]api.Decl {
	out := map[string][]api.Decl{
		"a declaration without a name": {{}},
		"a declaration named int":      {{Name: "int"}},
		"a declaration named bool":     {{Name: "bool", Iface: true}},
		"a declaration named string":   {{Name: "A"}, {Name: "string"}},
		"a declaration named nil":      {{Name: "nil"}},
		"a declaration named type":     {{Name: "type"}},
		"a declaration with a blank":   {{Name: "A "}},
		"a declaration's long name":    {{Name: longName + "n"}},
		"a field without a name":       some(fields(field("", intT)), nil),
		"a field named 1":              some(fields(field("1", intT)), nil),
		"a field named func":           some(fields(field("func", intT)), nil),
		"a field's long name":          some(fields(field(longName+"n", intT)), nil),
		"a method without a name":      some(nil, fields(field("", fn(0)))),
		"a method named a.b":           some(nil, fields(field("a.b", fn(0)))),
		"a method of an interface":     {{Name: "I", Iface: true, Methods: fields(field("for", fn(0)))}},
		"a field that is nil":          some(fields(field("a", nilT)), nil),
		"a method that is nil":         some(nil, fields(field("a", nilT))),
		"a method that is int":         some(nil, fields(field("a", intT))),
		"a method that is a pointer":   some(nil, fields(field("a", ptr(fn(0))))),
		"a method that is a name":      some(nil, fields(field("a", name("A")))),
		"a method that is zero":        some(nil, fields(field("a", api.Type{}))),
		"an interface with a field":    {{Name: "I", Iface: true, Fields: fields(field("a", intT))}},
		"an interface with both":       {{Name: "I", Iface: true, Fields: fields(field("a", intT)), Methods: manyMethods(1)}},
		"the last field":               some(append(manyFields(api.MaxFields-1, intT), field("x", nilT)), nil),
		"the last declaration":         append(manyDecls(api.MaxTypes-1), api.Decl{Name: "-"}),
		"ahead of two of one name":     {{Name: "A"}, {Name: "A"}, {Name: ""}},
		"ahead of two members":         {{Name: "A", Fields: fields(field("a", intT), field("a", intT))}, {Name: "int"}},
		"ahead of a name that is none": {{Name: "A", Fields: fields(field("a", name("B")))}, {Name: "C", Fields: fields(field("a", nilT))}},
		"ahead of a field of a struct": some(fields(field("a", name("A")), field("b", nilT)), nil),
	}
	for why, t := range wrongTypes() {
		out["a field: "+why] = some(fields(field("a", t)), nil)
		out["a method: "+why] = some(nil, fields(field("a", t)))
		out["a parameter: "+why] = some(nil, fields(field("a", fn(1, t))))
		out["an interface's result: "+why] = []api.Decl{{Name: "I", Iface: true, Methods: fields(field("a", fn(0, t)))}}
	}
	return out
}

func typeTables() map[string][]api.Decl {
	a := field("a", intT)
	return map[string][]api.Decl{
		"two structs of one name":       {{Name: "A"}, {Name: "A"}},
		"two interfaces of one name":    {{Name: "I", Iface: true}, {Name: "I", Iface: true}},
		"a struct and an interface":     {{Name: "A"}, {Name: "A", Iface: true}},
		"first and last of one name":    {{Name: "A"}, {Name: "B"}, {Name: "C"}, {Name: "A"}},
		"two fields of one name":        some(fields(a, a), nil),
		"two fields, apart":             some(fields(a, field("b", intT), field("a", boolT)), nil),
		"two methods of one name":       some(nil, fields(field("a", fn(0)), field("a", fn(1, intT)))),
		"two methods of an interface":   {{Name: "I", Iface: true, Methods: fields(field("a", fn(0)), field("b", fn(0)), field("a", fn(0)))}},
		"a field and a method":          some(fields(field("b", intT), a), fields(field("c", fn(0)), field("a", fn(0)))),
		"a name that is none":           some(fields(field("a", name("B"))), nil),
		"a pointer to none":             some(fields(field("a", ptr(name("B")))), nil),
		"a slice of none":               some(fields(field("a", slice(name("B")))), nil),
		"a parameter of none":           some(fields(field("a", fn(1, name("B")))), nil),
		"a method's parameter of none":  some(nil, fields(field("a", fn(1, name("B"))))),
		"a method's result of none":     some(nil, fields(field("a", fn(1, intT, slice(ptr(name("B"))))))),
		"an interface's result of none": {{Name: "I", Iface: true, Methods: fields(field("a", fn(0, name("i"))))}},
		"a name of a field":             some(fields(a, field("b", ptr(name("a")))), nil),
		"a field of its own struct":     some(fields(field("a", name("A"))), nil),
		"a field of another struct":     {{Name: "A", Fields: fields(field("a", name("B")))}, {Name: "B"}},
		"a field of a struct ahead":     {{Name: "B"}, {Name: "A", Fields: fields(field("a", intT), field("b", name("B")))}},
		"the last of as many":           append(manyDecls(api.MaxTypes-1), api.Decl{Name: "T0"}),
		"the last field of as many":     some(append(manyFields(api.MaxFields-1, intT), field("f0", intT)), nil),
		"the last method of as many":    some(manyFields(api.MaxFields, intT), append(manyMethods(api.MaxFields-1), field("f63", fn(0)))),
		"deep down":                     some(fields(field("a", deepOf(api.MaxDepth, name("B")))), nil),
		"the last one of a wide type":   some(fields(field("a", lastOf(wideType(api.MaxNodes), name("B")))), nil),
		"the last one of a wide method": some(nil, fields(field("a", lastOf(wideType(api.MaxNodes), name("none"))))),
		"many of the fault":             {{Name: "A", Fields: fields(a, a, field("b", name("A")))}, {Name: "A"}},
		"a struct beside a slice of it": {{Name: "A", Fields: fields(field("a", slice(name("A"))), field("b", name("A")))}},
		"a name of a method":            {{Name: "I", Iface: true, Methods: fields(field("a", fn(1, name("a"))))}},
	}
}

// deepOf: so many types on a way, the last one is this.
func deepOf(n int, t api.Type) api.Type {
	for range n - 1 {
		t = slice(t)
	}
	return t
}

func lastOf(t, last api.Type) api.Type {
	t.Kids = slices.Clone(t.Kids)
	t.Kids[len(t.Kids)-1] = last
	return t
}

// P4.3

func TestSound(t *testing.T) {
	for want, tables := range map[api.Errno]map[string][]api.Decl{
		api.OK: soundTables(), api.ErrLarge: largeTables(), api.ErrForm: formTables(), api.ErrType: typeTables(),
	} {
		for why, table := range tables {
			if got := types.Sound(table); got != want {
				t.Errorf("Sound, %s: %d; want %d", why, got, want)
			}
		}
	}
}

// Of two faults, wherever they stand, the one that is named first is told.
func TestSoundOrder(t *testing.T) {
	rows := []map[string][]api.Decl{largeTables(), formTables(), typeTables()}
	errs := []api.Errno{api.ErrLarge, api.ErrForm, api.ErrType}
	for i, first := range rows {
		for why, a := range first {
			for _, later := range rows[i:] {
				for other, b := range later {
					if strings.Contains(why+other, "wide") {
						continue
					}
					for _, table := range [][]api.Decl{slices.Concat(a, b), slices.Concat(b, a)} {
						want := errs[i]
						if len(table) > api.MaxTypes {
							want = api.ErrLarge
						}
						if got := types.Sound(table); got != want {
							t.Fatalf("Sound, %s and %s: %d; want %d", why, other, got, want)
						}
					}
				}
			}
		}
	}
}

// All other calls answer false and zero values for a table or a type that is not sound.
func TestWrongTables(t *testing.T) {
	for _, tables := range []map[string][]api.Decl{largeTables(), formTables(), typeTables()} {
		for why, table := range tables {
			answersNothing(t, why, table, intT, name("A"), ptr(name("A")), name("I"), nilT, ptr(intT))
		}
	}
}

func TestWrongTypes(t *testing.T) {
	table := world()
	for why, typ := range wrongTypes() {
		answersNothing(t, why, table, typ)
		for _, other := range append(worldTypes(), typ) {
			if types.Assignable(table, typ, other) || types.Assignable(table, other, typ) || types.Comparable(table, typ, other) || types.Comparable(table, other, typ) {
				t.Errorf("Assignable or Comparable, %s and %s", why, types.Text(other))
			}
		}
	}
}

func answersNothing(t *testing.T, why string, table []api.Decl, list ...api.Type) {
	t.Helper()
	for _, typ := range list {
		if types.Known(table, typ) {
			t.Errorf("Known, %s", why)
		}
		if f, ok := types.Fields(table, typ); ok || len(f) > 0 {
			t.Errorf("Fields, %s: %v", why, f)
		}
		for _, m := range []string{"a", "m0", "M", ""} {
			if got, ok := types.Method(table, typ, m); ok || !same(got, api.Type{}) {
				t.Errorf("Method %s, %s: %v", m, why, got)
			}
		}
		for _, other := range list {
			if types.Assignable(table, typ, other) || types.Comparable(table, typ, other) {
				t.Errorf("Assignable or Comparable, %s", why)
			}
		}
	}
}

// same: field by field, whatever the types are.
func same(a, b api.Type) bool {
	return a.Kind == b.Kind && a.Name == b.Name && a.Num == b.Num && slices.EqualFunc(a.Kids, b.Kids, same)
}

func TestLeastAndGreatest(t *testing.T) {
	for _, n := range []int{math.MinInt, -1, 0, 9, math.MaxInt} {
		typ := api.Type{Kind: n, Num: n, Kids: []api.Type{{Kind: n, Num: -n}}}
		answersNothing(t, "kind "+strconv.Itoa(n), world(), typ)
		answersNothing(t, "field of kind "+strconv.Itoa(n), some(fields(field("a", typ)), nil), intT)
	}
}
