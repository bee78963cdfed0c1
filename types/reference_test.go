package types_test

import (
	"math/rand"
	"regexp"
	"slices"
	"strings"
	"testing"

	"halyard/api"
	"halyard/parse"
	"halyard/print"
	"halyard/types"
)

// A second way: types are told by their texts alone, and what a table has is looked for in lists.

var nameForm = regexp.MustCompile(`^[A-Za-z_][A-Za-z_0-9]{0,63}$`)

var words = strings.Fields("type struct interface func var if else for return break continue true false nil")

func isName(s string) bool { return nameForm.MatchString(s) && !slices.Contains(words, s) }

func isFree(s string) bool {
	return isName(s) && !slices.Contains([]string{"int", "bool", "string"}, s)
}

var plainTexts = map[int]string{api.KInt: "int", api.KBool: "bool", api.KStr: "string", api.KNil: "nil"}

// textOf: a type's text; "": it is not sound. Types are laid into rows, one a depth.
func textOf(t api.Type) string {
	count := 0
	row := []api.Type{t}
	for deep := 0; len(row) > 0; deep++ {
		count += len(row)
		if deep == api.MaxDepth || count > api.MaxNodes {
			return ""
		}
		var next []api.Type
		for _, one := range row {
			if one.Kind == api.KNil && deep > 0 {
				return ""
			}
			next = append(next, one.Kids...)
		}
		row = next
	}
	return textBelow(t)
}

func textBelow(t api.Type) string {
	var kids []string
	for _, kid := range t.Kids {
		s := textBelow(kid)
		if s == "" {
			return ""
		}
		kids = append(kids, s)
	}
	bare := t.Num == 0 && t.Name == ""
	switch {
	case plainTexts[t.Kind] != "" && bare && len(kids) == 0:
		return plainTexts[t.Kind]
	case t.Kind == api.KName && t.Num == 0 && len(kids) == 0 && isFree(t.Name):
		return t.Name
	case t.Kind == api.KPtr && bare && len(kids) == 1:
		return "*" + kids[0]
	case t.Kind == api.KSlice && bare && len(kids) == 1:
		return "[]" + kids[0]
	case t.Kind != api.KFunc || t.Name != "" || t.Num < 0 || t.Num > len(kids):
		return ""
	}
	text := "func(" + strings.Join(kids[:t.Num], ", ") + ")"
	switch results := kids[t.Num:]; len(results) {
	case 0:
		return text
	case 1:
		return text + " " + results[0]
	default:
		return text + " (" + strings.Join(results, ", ") + ")"
	}
}

// reference: a table, with its members' types as texts.
type reference struct {
	structs, faces []string
	methods        map[string]string // by the declaration's name, a dot, and the method's
	fields         map[string]string // by the declaration's name: fieldsText
	fault          api.Errno
}

func (r *reference) fail(e api.Errno, fails bool) {
	rank := map[api.Errno]int{api.ErrLarge: 0, api.ErrForm: 1, api.ErrType: 2, api.OK: 3}
	if fails && rank[e] < rank[r.fault] {
		r.fault = e
	}
}

func refer(table []api.Decl) *reference {
	r := &reference{methods: map[string]string{}, fields: map[string]string{}}
	r.fail(api.ErrLarge, len(table) > api.MaxTypes)
	for _, one := range table {
		r.fail(api.ErrType, slices.Contains(r.structs, one.Name) || slices.Contains(r.faces, one.Name))
		if one.Iface {
			r.faces = append(r.faces, one.Name)
		} else {
			r.structs = append(r.structs, one.Name)
		}
	}
	for _, one := range table {
		r.member(one)
	}
	return r
}

func (r *reference) member(one api.Decl) {
	r.fail(api.ErrLarge, len(one.Fields) > api.MaxFields || len(one.Methods) > api.MaxFields)
	r.fail(api.ErrForm, !isFree(one.Name) || one.Iface && len(one.Fields) > 0)
	seen := map[string]bool{}
	for i, f := range slices.Concat(one.Fields, one.Methods) {
		text := textOf(f.Type)
		r.fail(api.ErrForm, !isName(f.Name) || text == "" || text == "nil" || i >= len(one.Fields) && f.Type.Kind != api.KFunc)
		r.fail(api.ErrType, seen[f.Name] || !r.known(text) || i < len(one.Fields) && slices.Contains(r.structs, text))
		seen[f.Name] = true
		if i < len(one.Fields) {
			r.fields[one.Name] += f.Name + " " + text + ";"
		} else {
			r.methods[one.Name+"."+f.Name] = text
		}
	}
}

var wordForm = regexp.MustCompile(`\w+`)

func (r *reference) known(text string) bool {
	for _, word := range wordForm.FindAllString(text, -1) {
		if !slices.Contains(slices.Concat(r.structs, r.faces, []string{"func", "int", "bool", "string"}), word) {
			return false
		}
	}
	return text != "" && text != "nil"
}

func (r *reference) sound(texts ...string) bool {
	return r.fault == api.OK && !slices.Contains(texts, "")
}

// structIn: the struct that a text names, perhaps behind one *.
func (r *reference) structIn(text string) string {
	s := strings.TrimPrefix(text, "*")
	if slices.Contains(r.structs, s) {
		return s
	}
	return ""
}

func (r *reference) method(text, name string) string {
	if !slices.Contains(r.faces, text) {
		text = r.structIn(text)
	}
	return r.methods[text+"."+name]
}

func (r *reference) mayBeNil(text string) bool {
	return r.known(text) && (strings.ContainsAny(text[:1], "*[") || strings.HasPrefix(text, "func(") || slices.Contains(r.faces, text))
}

func (r *reference) assignable(from, to string) bool {
	if !r.sound(from, to) || !r.known(to) {
		return false
	}
	if from == to || from == "nil" && r.mayBeNil(to) {
		return true
	}
	if !strings.HasPrefix(from, "*") || r.structIn(from) == "" || !slices.Contains(r.faces, to) {
		return false
	}
	for key, text := range r.methods {
		if m, is := strings.CutPrefix(key, to+"."); is && r.methods[from[1:]+"."+m] != text {
			return false
		}
	}
	return true
}

func (r *reference) comparable(a, b string) bool {
	switch {
	case !r.sound(a, b):
		return false
	case a == "nil" || b == "nil":
		return a != b && r.mayBeNil(strings.TrimSuffix(strings.TrimPrefix(a+" "+b, "nil "), " nil"))
	}
	return a == b && r.known(a) && (slices.Contains([]string{"int", "bool", "string"}, a) || a[0] == '*' || slices.Contains(r.faces, a))
}

// hold: all calls answer as the second way does.
func hold(t *testing.T, table []api.Decl, list []api.Type) api.Errno {
	t.Helper()
	r := refer(table)
	if e := types.Sound(table); e != r.fault {
		t.Fatalf("Sound: %d; want %d: %v", e, r.fault, table)
	}
	for _, a := range list {
		holdOne(t, r, table, a)
		one := textOf(a)
		for _, b := range list {
			other := textOf(b)
			if got, want := types.Same(a, b), one == other && one != ""; got != want {
				t.Fatalf("Same: %v: %v, %v", got, a, b)
			}
			if got, want := types.Assignable(table, a, b), r.assignable(one, other); got != want {
				t.Fatalf("Assignable(%s, %s): %v: %v", one, other, got, table)
			}
			if got, want := types.Comparable(table, a, b), r.comparable(one, other); got != want {
				t.Fatalf("Comparable(%s, %s): %v: %v", one, other, got, table)
			}
		}
	}
	return r.fault
}

func holdOne(t *testing.T, r *reference, table []api.Decl, a api.Type) {
	t.Helper()
	text := textOf(a)
	if got := types.Text(a); got != text {
		t.Fatalf("Text: %q; want %q: %v", got, text, a)
	}
	if got, want := types.Known(table, a), r.sound(text) && r.known(text); got != want {
		t.Fatalf("Known(%s): %v: %v", text, got, table)
	}
	f, ok := types.Fields(table, a)
	some := r.sound(text) && r.structIn(text) != ""
	want := ""
	if some {
		want = r.fields[r.structIn(text)]
	}
	if ok != some || fieldsText(f) != want {
		t.Fatalf("Fields(%s): %v, %v; want %q: %v", text, f, ok, want, table)
	}
	for _, name := range someNames {
		want := ""
		if r.sound(text) {
			want = r.method(text, name)
		}
		if got, ok := types.Method(table, a, name); ok != (want != "") || types.Text(got) != want || !ok && !same(got, api.Type{}) {
			t.Fatalf("Method(%s, %s): %v, %v; want %q: %v", text, name, got, ok, want, table)
		}
	}
}

var (
	declNames = []string{"A", "B", "C", "I", "J"}
	someNames = []string{"a", "b", "c", "m", "n"}
	oddNames  = []string{"", "int", "bool", "string", "nil", "func", "Z", "a b", "9", "é", longName, longName + "n"}
	oddNums   = []int{0, 1, 2, 3, 4, 5, 6, 7, 8, 9, -1, 1 << 40, -1 << 63}
)

func oneOf[T any](pick *rand.Rand, list []T) T { return list[pick.Intn(len(list))] }

// randomType: a sound one of these names.
func randomType(pick *rand.Rand, names []string, deep int) api.Type {
	kind := pick.Intn(12)
	switch {
	case kind < 3:
		return api.Type{Kind: kind + 1}
	case kind < 7 || deep == 0:
		return name(oneOf(pick, names))
	case kind < 9:
		return ptr(randomType(pick, names, deep-1))
	case kind < 10:
		return slice(randomType(pick, names, deep-1))
	}
	return randomFunc(pick, names, deep)
}

func randomFunc(pick *rand.Rand, names []string, deep int) api.Type {
	kids := make([]api.Type, pick.Intn(3))
	for i := range kids {
		kids[i] = randomType(pick, names, max(0, deep-1))
	}
	return fn(pick.Intn(len(kids)+1), kids...)
}

// randomTable: one that is sound but for fields that are structs.
func randomTable(pick *rand.Rand) []api.Decl {
	names := slices.Clone(declNames)
	pick.Shuffle(len(names), func(i, j int) { names[i], names[j] = names[j], names[i] })
	names = names[:1+pick.Intn(len(names))]
	var out []api.Decl
	for _, n := range names {
		one := api.Decl{Name: n, Iface: pick.Intn(2) == 0}
		for _, i := range pick.Perm(len(someNames)) {
			switch pick.Intn(4) {
			case 0:
				one.Methods = append(one.Methods, field(someNames[i], randomFunc(pick, names, pick.Intn(2))))
			case 1:
				if typ := randomType(pick, names, 2); !one.Iface && typ.Kind != api.KName {
					one.Fields = append(one.Fields, field(someNames[i], typ))
				}
			}
		}
		out = append(out, one)
	}
	return out
}

// parts: the types of a tree, the whole first.
func parts(t *api.Type) []*api.Type {
	out := []*api.Type{t}
	for i := range t.Kids {
		out = append(out, parts(&t.Kids[i])...)
	}
	return out
}

// damage changes one field of one type of a tree.
func damage(pick *rand.Rand, t *api.Type) {
	at := oneOf(pick, parts(t))
	switch pick.Intn(5) {
	case 0:
		at.Kind = oneOf(pick, oddNums)
	case 1:
		at.Name = oneOf(pick, slices.Concat(oddNames, declNames))
	case 2:
		at.Num = oneOf(pick, oddNums)
	case 3:
		at.Kids = append(slices.Clone(at.Kids), oneOf(pick, []api.Type{intT, nilT, name("A"), {}}))
	case 4:
		if len(at.Kids) > 0 {
			at.Kids = at.Kids[1:]
		} else {
			at.Kind = 1 + pick.Intn(8)
		}
	}
}

// damageTable changes one thing of one declaration.
func damageTable(pick *rand.Rand, table []api.Decl) {
	one := &table[pick.Intn(len(table))]
	list := &one.Fields
	if pick.Intn(2) == 0 {
		list = &one.Methods
	}
	switch kind := pick.Intn(9); {
	case kind == 0:
		one.Name = oneOf(pick, slices.Concat(oddNames, declNames, declNames))
	case kind == 1:
		one.Iface = !one.Iface
	case kind == 2:
		one.Methods = append(slices.Clone(one.Methods), field(oneOf(pick, someNames), randomFunc(pick, declNames, 1)))
	case kind == 3:
		one.Name = oneOf(pick, declNames)
	case kind == 4 || len(*list) == 0:
		*list = append(slices.Clone(*list), field(oneOf(pick, someNames), randomType(pick, declNames, 1)))
	case kind == 5:
		(*list)[pick.Intn(len(*list))].Name = oneOf(pick, slices.Concat(oddNames, someNames, someNames, someNames))
	case kind == 6:
		(*list)[pick.Intn(len(*list))].Type = randomFunc(pick, append(slices.Clone(declNames), "Z"), 1)
	default:
		damage(pick, &(*list)[pick.Intn(len(*list))].Type)
	}
}

// randomCase: a table and types, most of them sound.
func randomCase(pick *rand.Rand) ([]api.Decl, []api.Type) {
	table := randomTable(pick)
	for pick.Intn(5) < 2 {
		damageTable(pick, table)
	}
	list := []api.Type{nilT}
	for range 6 {
		list = append(list, randomType(pick, append(slices.Clone(declNames), "A", "I", "Z"), 2))
	}
	list = append(list, ptr(name("A")), ptr(name("B")), name("I"), name("J"))
	for pick.Intn(2) == 0 {
		damage(pick, &list[pick.Intn(len(list))])
	}
	return table, list
}

func TestRandom(t *testing.T) {
	pick := rand.New(rand.NewSource(1))
	ends := map[api.Errno]int{}
	for range 1500 {
		table, list := randomCase(pick)
		ends[hold(t, table, list)]++
	}
	if ends[api.OK] < 700 || ends[api.ErrForm] < 100 || ends[api.ErrType] < 100 {
		t.Errorf("%v: the test tells little", ends)
	}
}

func FuzzTypes(f *testing.F) {
	f.Add(int64(1))
	f.Fuzz(func(t *testing.T, seed int64) {
		table, list := randomCase(rand.New(rand.NewSource(seed)))
		hold(t, table, list)
	})
}

// Each type's text, read and taken by Of, is the type again; and so is the text of each type and signature of a program.
func TestOfText(t *testing.T) {
	pick := rand.New(rand.NewSource(2))
	for range 3000 {
		want := randomType(pick, append(slices.Clone(declNames), "print", "_x9"), 4)
		holdOf(t, types.Text(want), want)
	}
}

func holdOf(t *testing.T, text string, want api.Type) {
	t.Helper()
	n, at, e := parse.Parse("type S struct { f " + text + "; } func f(x " + text + ", y " + text + ") " + text + " {}")
	if e != api.OK {
		t.Fatalf("Parse of %q: %d at %d", text, e, at)
	}
	if got, e := types.Of(n.Kids[0].Kids[0].Kids[0]); e != api.OK || !same(got, want) {
		t.Fatalf("Of %s: %v, %d", text, got, e)
	}
	if got, e := types.Of(n.Kids[1].Kids[0]); e != api.OK || !same(got, fn(2, want, want, want)) {
		t.Fatalf("Of the signature of %s: %v, %d", text, got, e)
	}
}

// Of a changed node: the error, unless print has a text of a program with it that is read as the type.
func TestOfChanged(t *testing.T) {
	pick := rand.New(rand.NewSource(3))
	kinds := []int{0, api.NField, api.NSig, api.NParam, api.TyName, api.TyPtr, api.TySlice, api.TyFunc, 14, api.EName, api.SBlock}
	count := map[bool]int{}
	for range 20000 {
		n := nodeOf(pick, randomType(pick, declNames, 3), pick.Intn(4) == 0)
		for pick.Intn(2) == 0 {
			list := nodesOf(&n)
			at := oneOf(pick, list)
			switch pick.Intn(4) {
			case 0:
				at.Kind = oneOf(pick, kinds)
			case 1:
				at.Text = oneOf(pick, oddNames)
			case 2:
				at.Num = oneOf(pick, oddNums)
			case 3:
				at.Kids = append(slices.Clone(at.Kids), cloned(*oneOf(pick, list)))
			}
		}
		count[holdChanged(t, n)]++
	}
	if count[true] < 3000 || count[false] < 3000 {
		t.Errorf("%v: the test tells little", count)
	}
}

func holdChanged(t *testing.T, n api.Node) bool {
	t.Helper()
	got, e := types.Of(n)
	if _, fault := print.Text(declaring(n)); fault != api.OK {
		if e != api.ErrForm || !same(got, api.Type{}) {
			t.Fatalf("Of: %v, %d: %v", got, e, n)
		}
		return false
	}
	if e != api.OK {
		t.Fatalf("Of: %d: %v", e, n)
	}
	want, _ := print.Text(declaring(marked(n)))
	want = strings.NewReplacer("type S struct {\nm ", "", "type I interface {\nm ", "func", "QQQ ", "", " ;\n}\n", "", " ", "").Replace(want)
	if text := strings.ReplaceAll(textOf(got), " ", ""); text != want {
		t.Fatalf("Of: %s; want %s", text, want)
	}
	return true
}

// declaring: a program that declares a member with this type or signature.
func declaring(n api.Node) api.Node {
	kind, name := api.NStruct, "S"
	if n.Kind == api.NSig {
		kind, name = api.NIface, "I"
	}
	return node(api.NProg, "", 0, node(kind, name, 0, node(api.NField, "m", 0, n)))
}

// marked: a signature whose parameters have a name by which they are told from types.
func marked(n api.Node) api.Node {
	n = cloned(n)
	for i := range n.Kids {
		if n.Kids[i].Kind == api.NParam {
			n.Kids[i].Text = "QQQ"
		}
	}
	return n
}

func cloned(n api.Node) api.Node {
	n.Kids = slices.Clone(n.Kids)
	for i, kid := range n.Kids {
		n.Kids[i] = cloned(kid)
	}
	return n
}

// nodeOf: the node of a type, or a signature with it.
func nodeOf(pick *rand.Rand, t api.Type, asSig bool) api.Node {
	if asSig {
		return sig(1, param("QQ", nodeOf(pick, t, false)), nodeOf(pick, t, false))
	}
	if text, is := plainTexts[t.Kind]; is {
		return tyName(text)
	}
	n := node(map[int]int{api.KName: api.TyName, api.KPtr: api.TyPtr, api.KSlice: api.TySlice, api.KFunc: api.TyFunc}[t.Kind], t.Name, t.Num)
	for _, kid := range t.Kids {
		n.Kids = append(n.Kids, nodeOf(pick, kid, false))
	}
	return n
}

func nodesOf(n *api.Node) []*api.Node {
	out := []*api.Node{n}
	for i := range n.Kids {
		out = append(out, nodesOf(&n.Kids[i])...)
	}
	return out
}
