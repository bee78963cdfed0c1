package types_test

import (
	"slices"
	"strings"
	"testing"
	"unsafe"

	"halyard/api"
	"halyard/types"
)

// world: structs and interfaces, whose methods are alike, or nearly so.
func world() []api.Decl {
	m := field("M", fn(0))
	n := field("N", fn(1, intT, ptr(name("S"))))
	return []api.Decl{
		{Name: "S", Fields: fields(field("a", intT), field("p", ptr(name("S"))), field("i", name("I"))), Methods: fields(m, n)},
		{Name: "T"},
		{Name: "U", Fields: fields(field("M", fn(0))), Methods: fields(field("N", fn(1, intT, ptr(name("T")))))},
		{Name: "V", Methods: fields(field("X", fn(0)), n, field("M", fn(0)))},
		{Name: "W", Methods: fields(field("M", fn(0, intT)))},
		{Name: "Q", Methods: fields(field("M", fn(1, intT)), n)},
		{Name: "Any", Iface: true},
		{Name: "I", Iface: true, Methods: fields(m)},
		{Name: "J", Iface: true, Methods: fields(n, m)},
		{Name: "K", Iface: true, Methods: fields(m)},
	}
}

// worldTypes: types that are known in it, each another one.
func worldTypes() []api.Type {
	out := []api.Type{intT, boolT, strT, fn(0), fn(1, intT), fn(0, intT), ptr(intT), slice(intT), ptr(ptr(name("S"))), slice(ptr(name("S")))}
	for _, one := range world() {
		t := name(one.Name)
		out = append(out, t, ptr(t), slice(t), fn(1, t))
	}
	return out
}

// unknownTypes: sound types that are not known in it.
func unknownTypes() []api.Type {
	z := name("Z")
	return []api.Type{z, name("s"), name("M"), name("a"), ptr(z), slice(z), ptr(ptr(z)), fn(1, z), fn(0, z), fn(2, name("S"), z, name("S")), fn(1, intT, fn(0, slice(z)))}
}

// P4.4

func TestKnown(t *testing.T) {
	for _, typ := range worldTypes() {
		if !types.Known(world(), typ) {
			t.Errorf("not Known: %s", types.Text(typ))
		}
	}
	for _, typ := range append(unknownTypes(), nilT) {
		if types.Known(world(), typ) {
			t.Errorf("Known: %s", types.Text(typ))
		}
	}
	if !types.Known(nil, intT) || !types.Known(nil, fn(1, ptr(intT), slice(boolT), strT)) || types.Known(nil, name("S")) || types.Known(nil, nilT) {
		t.Error("Known without declarations")
	}
	if !types.Known(nil, deepType(api.MaxDepth)) || !types.Known(nil, wideType(api.MaxNodes)) {
		t.Error("Known at the limits")
	}
	if types.Known(world(), lastOf(wideType(api.MaxNodes), name("Z"))) || types.Known(world(), deepOf(api.MaxDepth, name("Z"))) {
		t.Error("Known at the limits, with a name that is none")
	}
}

// Which methods each name has, as texts.
func TestMethod(t *testing.T) {
	want := map[string]map[string]string{
		"S":   {"M": "func()", "N": "func(int) *S"},
		"U":   {"N": "func(int) *T"},
		"V":   {"X": "func()", "N": "func(int) *S", "M": "func()"},
		"W":   {"M": "func() int"},
		"Q":   {"M": "func(int)", "N": "func(int) *S"},
		"I":   {"M": "func()"},
		"J":   {"N": "func(int) *S", "M": "func()"},
		"K":   {"M": "func()"},
		"Any": {}, "T": {},
	}
	table := world()
	for _, one := range table {
		for _, m := range []string{"M", "N", "X", "a", "p", "i", "m", "", "S", "M ", "\xff", longName + "n"} {
			holdMethod(t, table, name(one.Name), m, want[one.Name][m])
			behind := want[one.Name][m]
			if one.Iface {
				behind = ""
			}
			holdMethod(t, table, ptr(name(one.Name)), m, behind)
			for _, typ := range []api.Type{ptr(ptr(name(one.Name))), slice(name(one.Name)), fn(0), fn(1, name(one.Name)), intT, nilT, name("Z"), ptr(name("Z"))} {
				holdMethod(t, table, typ, m, "")
			}
		}
	}
}

// holdMethod: the method's type has this text; "": there is none.
func holdMethod(t *testing.T, table []api.Decl, typ api.Type, method, want string) {
	t.Helper()
	got, ok := types.Method(table, typ, method)
	if ok != (want != "") || types.Text(got) != want || !ok && !same(got, api.Type{}) {
		t.Errorf("Method(%s, %q): %v, %v; want %q", types.Text(typ), method, got, ok, want)
	}
}

func TestFields(t *testing.T) {
	table := world()
	want := map[string]string{
		"S": "a int;p *S;i I;", "*S": "a int;p *S;i I;", "U": "M func();", "*U": "M func();",
		"T": "", "*T": "", "V": "", "*V": "", "W": "", "*W": "", "Q": "", "*Q": "",
	}
	for _, typ := range slices.Concat(worldTypes(), unknownTypes(), []api.Type{nilT}) {
		text, some := want[types.Text(typ)]
		got, ok := types.Fields(table, typ)
		if ok != some || fieldsText(got) != text {
			t.Errorf("Fields(%s): %s, %v; want %s", types.Text(typ), fieldsText(got), ok, text)
		}
	}
	wide := some(manyFields(api.MaxFields, slice(name("A"))), nil)
	if got, ok := types.Fields(wide, name("A")); !ok || len(got) != api.MaxFields || got[api.MaxFields-1].Name != "f63" {
		t.Error("Fields of as many as there may be")
	}
}

func fieldsText(list []api.Field) string {
	var out strings.Builder
	for _, f := range list {
		out.WriteString(f.Name + " " + types.Text(f.Type) + ";")
	}
	return out.String()
}

// P4.5: of all pairs just these, and each type to itself.
func TestAssignable(t *testing.T) {
	pairs := map[string]bool{
		"*S Any": true, "*T Any": true, "*U Any": true, "*V Any": true, "*W Any": true, "*Q Any": true,
		"*S I": true, "*S K": true, "*V I": true, "*V K": true, "*S J": true, "*V J": true,
	}
	nils := "Any I J K *int **S *S *T *U *V *W *Q *Any *I *J *K []int []*S []S []T []U []V []W []Q []Any []I []J []K" +
		" func() func(int) func()int func(S) func(T) func(U) func(V) func(W) func(Q) func(Any) func(I) func(J) func(K)"
	for _, to := range strings.Fields(nils) {
		pairs["nil "+strings.Replace(to, ")int", ") int", 1)] = true
	}
	table := world()
	count := 0
	all := slices.Concat(worldTypes(), unknownTypes(), []api.Type{nilT})
	for _, from := range all {
		for _, to := range all {
			itself := types.Same(from, to) && types.Known(table, to)
			want := pairs[types.Text(from)+" "+types.Text(to)] || itself
			if got := types.Assignable(table, from, to); got != want {
				t.Errorf("Assignable(%s, %s): %v", types.Text(from), types.Text(to), got)
			}
			if want && !itself {
				count++
			}
		}
	}
	if count != len(pairs) {
		t.Errorf("%d pairs were seen of %d", count, len(pairs))
	}
}

// P4.6: of all pairs just these, each type to itself, and nil on either side.
func TestComparable(t *testing.T) {
	equal := strings.Fields("int bool string *int **S *S *T *U *V *W *Q *Any *I *J *K Any I J K")
	nils := append(strings.Fields("[]int []*S []S []T []U []V []W []Q []Any []I []J []K func() func(int) func(S) func(T) func(U) func(V) func(W) func(Q) func(Any) func(I) func(J) func(K)"), "func() int")
	nils = append(nils, equal[3:]...)
	table := world()
	all := slices.Concat(worldTypes(), unknownTypes(), []api.Type{nilT})
	for _, a := range all {
		for _, b := range all {
			one, other := types.Text(a), types.Text(b)
			want := one == other && slices.Contains(equal, one) || one == "nil" && slices.Contains(nils, other) || other == "nil" && slices.Contains(nils, one)
			if got := types.Comparable(table, a, b); got != want {
				t.Errorf("Comparable(%s, %s): %v", one, other, got)
			}
		}
	}
}

// The example of the chapter.
func TestExample(t *testing.T) {
	if got := types.Text(fn(2, intT, ptr(name("S")), slice(intT), boolT)); got != "func(int, *S) ([]int, bool)" {
		t.Errorf("Text: %q", got)
	}
	m := fields(field("M", fn(0)))
	table := []api.Decl{{Name: "S", Methods: m}, {Name: "I", Iface: true, Methods: m}}
	s, i := name("S"), name("I")
	if !types.Assignable(table, ptr(s), i) || types.Assignable(table, s, i) || types.Assignable(table, i, ptr(s)) {
		t.Error("Assignable")
	}
	if !types.Comparable(table, i, nilT) || types.Comparable(table, slice(intT), slice(intT)) {
		t.Error("Comparable")
	}
}

// R4

// spare: a world whose lists have spare room, with something in it; what stands there is told by held.
func spare() []api.Decl {
	table := world()
	for i := range table {
		table[i].Fields = append(slices.Grow(table[i].Fields, 4), field("spare", nilT))[:len(table[i].Fields)]
		table[i].Methods = append(slices.Grow(table[i].Methods, 4), field("spare", nilT))[:len(table[i].Methods)]
	}
	return append(slices.Grow(table, 4), api.Decl{Name: "spare"})[:len(table)]
}

func held(table []api.Decl) string {
	var out strings.Builder
	for _, one := range table[:len(table)+1] {
		out.WriteString(one.Name + "{")
		if one.Name != "spare" {
			out.WriteString(fieldsText(one.Fields[:len(one.Fields)+1]) + "|" + fieldsText(one.Methods[:len(one.Methods)+1]))
		}
		out.WriteString("}")
	}
	return out.String()
}

func TestUnchanged(t *testing.T) {
	table, before := spare(), held(spare())
	for _, a := range worldTypes() {
		kids := append(slices.Grow(a.Kids, 2), name("spare"))
		a.Kids = kids[:len(a.Kids)]
		text := types.Text(a)
		types.Sound(table)
		types.Known(table, a)
		types.Method(table, a, "M")
		types.Fields(table, a)
		types.Assignable(table, a, name("I"))
		types.Comparable(table, a, nilT)
		types.Same(a, a)
		if held(table) != before || types.Text(a) != text || kids[len(kids)-1].Name != "spare" {
			t.Fatalf("changed: %s", held(table))
		}
	}
	kids := append(make([]api.Node, 0, 4), tyName("S"), node(api.EName, "spare", 0))
	if got, _ := types.Of(node(api.TyPtr, "", 0, kids[:1]...)); !types.Same(got, ptr(name("S"))) || kids[0].Text != "S" || kids[1].Text != "spare" {
		t.Error("Of changed what it was given")
	}
}

// An answer that is written to changes nothing that was handed in, nor a later answer, nor another list of its own.
func TestNewMemory(t *testing.T) {
	kids := []api.Type{ptr(name("S"))}
	shared := api.Type{Kind: api.KFunc, Num: 1, Kids: kids}
	table := some(fields(field("a", shared), field("b", shared)), fields(field("c", fn(2, shared, shared))))
	table = append(table, api.Decl{Name: "S"})
	for range 2 {
		m, ok := types.Method(table, name("A"), "c")
		f, some := types.Fields(table, ptr(name("A")))
		if !ok || !some || types.Text(m) != "func(func(*S), func(*S))" || fieldsText(f) != "a func(*S);b func(*S);" {
			t.Fatalf("%v, %v", m, f)
		}
		m.Kids[0].Kids[0].Kids[0] = intT
		f[0].Type.Kids[0].Kids[0] = boolT
		if types.Text(m) != "func(func(*int), func(*S))" || fieldsText(f) != "a func(*bool);b func(*S);" {
			t.Fatalf("lists of one answer share memory: %v, %v", m, f)
		}
		m.Kids[1] = strT
		f[1] = field("z", strT)
		_ = append(m.Kids[:0], strT, strT)
		_ = append(f[:1], f...)
	}
	nodes := []api.Node{tyPtr(tyName("S"))}
	n := tyFunc(2, tyFunc(1, nodes...), tyFunc(1, nodes...))
	a, _ := types.Of(n)
	a.Kids[0].Kids[0] = intT
	if types.Text(a) != "func(func(int), func(*S))" {
		t.Errorf("lists of Of's answer share memory: %v", a)
	}
}

func TestNewTexts(t *testing.T) {
	long := strings.Repeat("N", 40)
	table := []api.Decl{{Name: long, Fields: fields(field(long, ptr(name(long)))), Methods: fields(field("m", fn(1, name(long))))}}
	f, _ := types.Fields(table, name(long))
	m, _ := types.Method(table, name(long), "m")
	o, _ := types.Of(tyName(long))
	for i, s := range []string{f[0].Name, f[0].Type.Kids[0].Name, m.Kids[0].Name, o.Name, types.Text(name(long))} {
		if s != long || unsafe.StringData(s) == unsafe.StringData(long) {
			t.Errorf("text %d: %q shares memory with what was handed in", i, s)
		}
	}
}
