package types_test

import (
	"math"
	"reflect"
	"strconv"
	"strings"
	"testing"

	"halyard/api"
	"halyard/types"
)

// Short forms of types.

var (
	intT  = api.Type{Kind: api.KInt}
	boolT = api.Type{Kind: api.KBool}
	strT  = api.Type{Kind: api.KStr}
	nilT  = api.Type{Kind: api.KNil}
)

func name(s string) api.Type           { return api.Type{Kind: api.KName, Name: s} }
func ptr(t api.Type) api.Type          { return api.Type{Kind: api.KPtr, Kids: []api.Type{t}} }
func slice(t api.Type) api.Type        { return api.Type{Kind: api.KSlice, Kids: []api.Type{t}} }
func fn(n int, l ...api.Type) api.Type { return api.Type{Kind: api.KFunc, Num: n, Kids: l} }
func field(n string, t api.Type) api.Field {
	return api.Field{Name: n, Type: t}
}

// deepType: so many types on a way.
func deepType(n int) api.Type {
	t := intT
	for range n - 1 {
		t = ptr(t)
	}
	return t
}

// wideType: so many types in all.
func wideType(n int) api.Type {
	kids := make([]api.Type, n-1)
	for i := range kids {
		kids[i] = intT
	}
	return fn(0, kids...)
}

// ringType: a list that holds itself.
func ringType() api.Type {
	t := api.Type{Kind: api.KPtr, Kids: make([]api.Type, 1)}
	t.Kids[0] = t
	return t
}

// wideRing: each list holds itself many times.
func wideRing() api.Type {
	t := fn(3, make([]api.Type, 50)...)
	for i := range t.Kids {
		t.Kids[i] = t
	}
	return t
}

var longName = strings.Repeat("n", api.MaxName)

// soundTypes: types that are sound, with their texts.
func soundTypes() map[string]api.Type {
	return map[string]api.Type{
		"int":                           intT,
		"bool":                          boolT,
		"string":                        strT,
		"nil":                           nilT,
		"S":                             name("S"),
		"_":                             name("_"),
		"Int":                           name("Int"),
		"print":                         name("print"),
		longName:                        name(longName),
		"*int":                          ptr(intT),
		"**S":                           ptr(ptr(name("S"))),
		"[]int":                         slice(intT),
		"[]*[]S":                        slice(ptr(slice(name("S")))),
		"func()":                        fn(0),
		"func(int)":                     fn(1, intT),
		"func() int":                    fn(0, intT),
		"func(int, *S) ([]int, bool)":   fn(2, intT, ptr(name("S")), slice(intT), boolT),
		"func(int, bool) string":        fn(2, intT, boolT, strT),
		"func(int) (bool, string)":      fn(1, intT, boolT, strT),
		"func() (int, bool, string)":    fn(0, intT, boolT, strT),
		"func(int, bool, string)":       fn(3, intT, boolT, strT),
		"func() func()":                 fn(0, fn(0)),
		"func(func())":                  fn(1, fn(0)),
		"func() func() int":             fn(0, fn(0, intT)),
		"func() (func(), int)":          fn(0, fn(0), intT),
		"func(func(I) bool, S) []S":     fn(2, fn(1, name("I"), boolT), name("S"), slice(name("S"))),
		"[]func() (int, *int)":          slice(fn(0, intT, ptr(intT))),
		"*func(int)":                    ptr(fn(1, intT)),
		strings.Repeat("*", 99) + "int": deepType(api.MaxDepth),
		"func() (int" + strings.Repeat(", int", api.MaxNodes-2) + ")": wideType(api.MaxNodes),
	}
}

// wrongTypes: types that are not sound.
func wrongTypes() map[string]api.Type {
	deepFunc := fn(0)
	for range api.MaxDepth {
		deepFunc = fn(1, deepFunc)
	}
	return map[string]api.Type{
		"zero":                      {},
		"kind 9":                    {Kind: 9},
		"kind -1":                   {Kind: -1},
		"greatest kind":             {Kind: math.MaxInt},
		"least kind":                {Kind: math.MinInt},
		"int with a name":           {Kind: api.KInt, Name: "int"},
		"int with a number":         {Kind: api.KInt, Num: 1},
		"int with a kid":            {Kind: api.KInt, Kids: []api.Type{intT}},
		"bool with a name":          {Kind: api.KBool, Name: "b"},
		"bool with a number":        {Kind: api.KBool, Num: -1},
		"bool with a kid":           {Kind: api.KBool, Kids: []api.Type{boolT}},
		"string with a name":        {Kind: api.KStr, Name: "s"},
		"string with a number":      {Kind: api.KStr, Num: 1},
		"string with a kid":         {Kind: api.KStr, Kids: []api.Type{strT}},
		"nil with a name":           {Kind: api.KNil, Name: "nil"},
		"nil with a number":         {Kind: api.KNil, Num: 1},
		"nil with a kid":            {Kind: api.KNil, Kids: []api.Type{intT}},
		"no name":                   name(""),
		"name int":                  name("int"),
		"name bool":                 name("bool"),
		"name string":               name("string"),
		"name of a word":            name("nil"),
		"name of a digit":           name("1a"),
		"name of two":               name("a b"),
		"name of other bytes":       name("\xff"),
		"name of other letters":     name("é"),
		"long name":                 name(longName + "n"),
		"name with a number":        {Kind: api.KName, Name: "S", Num: 1},
		"name with a kid":           {Kind: api.KName, Name: "S", Kids: []api.Type{intT}},
		"pointer to nothing":        {Kind: api.KPtr},
		"pointer to two":            {Kind: api.KPtr, Kids: []api.Type{intT, intT}},
		"pointer with a name":       {Kind: api.KPtr, Name: "p", Kids: []api.Type{intT}},
		"pointer with a number":     {Kind: api.KPtr, Num: 1, Kids: []api.Type{intT}},
		"pointer to nil":            ptr(nilT),
		"pointer to a wrong one":    ptr(name("")),
		"slice of nothing":          {Kind: api.KSlice},
		"slice of two":              {Kind: api.KSlice, Kids: []api.Type{intT, intT}},
		"slice with a name":         {Kind: api.KSlice, Name: "s", Kids: []api.Type{intT}},
		"slice with a number":       {Kind: api.KSlice, Num: 1, Kids: []api.Type{intT}},
		"slice of nil":              slice(nilT),
		"slice of a wrong one":      slice(ptr(api.Type{})),
		"func with a name":          {Kind: api.KFunc, Name: "f"},
		"func of -1":                fn(-1),
		"func of -1 with a kid":     fn(-1, intT),
		"func of least":             fn(math.MinInt, intT),
		"func of one too many":      fn(1),
		"func of two of one":        fn(2, intT),
		"func of greatest":          fn(math.MaxInt, intT),
		"func of nil":               fn(1, nilT),
		"func to nil":               fn(0, nilT),
		"func, last of three wrong": fn(1, intT, boolT, api.Type{}),
		"too deep":                  deepType(api.MaxDepth + 1),
		"too deep, functions":       deepFunc,
		"too wide":                  wideType(api.MaxNodes + 1),
		"far too wide":              wideType(10 * api.MaxNodes),
		"ring":                      ringType(),
		"wide ring":                 wideRing(),
	}
}

// P4.2

func TestText(t *testing.T) {
	for want, typ := range soundTypes() {
		if got := types.Text(typ); got != want {
			t.Errorf("Text: %.80q; want %.80q", got, want)
		}
	}
	for why, typ := range wrongTypes() {
		if got := types.Text(typ); got != "" {
			t.Errorf("Text of %s: %.80q", why, got)
		}
	}
}

func TestSame(t *testing.T) {
	again := soundTypes()
	for one, a := range soundTypes() {
		for other, b := range again {
			if got := types.Same(a, b); got != (one == other) {
				t.Errorf("Same(%.80s, %.80s): %v", one, other, got)
			}
		}
	}
	for why, a := range wrongTypes() {
		if types.Same(a, a) {
			t.Errorf("Same of %s and itself", why)
		}
		if types.Same(a, intT) || types.Same(intT, a) {
			t.Errorf("Same of %s and int", why)
		}
	}
}

// Where a single field makes a tree another one, or one that is not sound.
func TestSameNear(t *testing.T) {
	a := fn(1, ptr(name("S")), slice(intT))
	for _, b := range []api.Type{
		fn(0, ptr(name("S")), slice(intT)), fn(2, ptr(name("S")), slice(intT)), fn(1, slice(name("S")), slice(intT)),
		fn(1, ptr(name("s")), slice(intT)), fn(1, ptr(name("S")), slice(boolT)), fn(1, ptr(name("S"))), fn(1, slice(intT), ptr(name("S"))),
		fn(1, ptr(name("S")), slice(intT), slice(intT)),
	} {
		if types.Same(a, b) || types.Same(b, a) {
			t.Errorf("Same(%s, %s)", types.Text(a), types.Text(b))
		}
	}
	if !types.Same(a, fn(1, ptr(name("S")), slice(intT))) {
		t.Error("Same of two trees of one form")
	}
}

// R4: nil and empty lists are the same.
func TestEmptyLists(t *testing.T) {
	empty := api.Type{Kind: api.KFunc, Kids: []api.Type{}}
	if !types.Same(empty, fn(0)) || types.Text(empty) != "func()" || !types.Same(api.Type{Kind: api.KInt, Kids: []api.Type{}}, intT) {
		t.Error("an empty list is not as nil is")
	}
	table := []api.Decl{{Name: "I", Iface: true, Fields: []api.Field{}, Methods: []api.Field{}}}
	if e := types.Sound(table); e != api.OK {
		t.Errorf("Sound with empty lists: %d", e)
	}
	if types.Sound([]api.Decl{}) != api.OK || types.Sound(nil) != api.OK || !types.Known(nil, intT) || !types.Known([]api.Decl{}, intT) {
		t.Error("a table without declarations is sound")
	}
}

// P4.1

func node(kind int, text string, num int, kids ...api.Node) api.Node {
	return api.Node{Kind: kind, Text: text, Num: num, Kids: kids}
}

func tyName(s string) api.Node            { return node(api.TyName, s, 0) }
func tyPtr(n api.Node) api.Node           { return node(api.TyPtr, "", 0, n) }
func tySlice(n api.Node) api.Node         { return node(api.TySlice, "", 0, n) }
func param(s string, n api.Node) api.Node { return node(api.NParam, s, 0, n) }

func tyFunc(num int, kids ...api.Node) api.Node { return node(api.TyFunc, "", num, kids...) }
func sig(num int, kids ...api.Node) api.Node    { return node(api.NSig, "", num, kids...) }

// isOf: the node's type is just this one.
func isOf(t *testing.T, n api.Node, want api.Type) {
	t.Helper()
	got, e := types.Of(n)
	if e != api.OK || !reflect.DeepEqual(got, want) {
		t.Errorf("Of: %.200v, %d; want %.200v", got, e, want)
	}
	if !types.Same(got, want) {
		t.Errorf("Of: no sound type: %.200v", got)
	}
}

func failsOf(t *testing.T, why string, n api.Node) {
	t.Helper()
	if got, e := types.Of(n); e != api.ErrForm || !reflect.DeepEqual(got, api.Type{}) {
		t.Errorf("Of %s: %.200v, %d", why, got, e)
	}
}

func TestOfTypes(t *testing.T) {
	isOf(t, tyName("int"), intT)
	isOf(t, tyName("bool"), boolT)
	isOf(t, tyName("string"), strT)
	isOf(t, tyName("S"), name("S"))
	isOf(t, tyName("Int"), name("Int"))
	isOf(t, tyName(longName), name(longName))
	isOf(t, tyPtr(tyName("S")), ptr(name("S")))
	isOf(t, tyPtr(tyPtr(tyName("int"))), ptr(ptr(intT)))
	isOf(t, tySlice(tyName("bool")), slice(boolT))
	isOf(t, tySlice(tyPtr(tySlice(tyName("S")))), slice(ptr(slice(name("S")))))
	isOf(t, tyFunc(0), fn(0))
	isOf(t, tyFunc(0, tyName("int")), fn(0, intT))
	isOf(t, tyFunc(1, tyName("int")), fn(1, intT))
	isOf(t, tyFunc(2, tyName("int"), tyPtr(tyName("S")), tySlice(tyName("int")), tyName("bool")), fn(2, intT, ptr(name("S")), slice(intT), boolT))
	isOf(t, tyFunc(1, tyFunc(1, tyName("I")), tyName("string")), fn(1, fn(1, name("I")), strT))
	isOf(t, tySlice(tyFunc(0, tyName("int"))), slice(fn(0, intT)))
}

func TestOfSignatures(t *testing.T) {
	isOf(t, sig(0), fn(0))
	isOf(t, sig(0, tyName("int")), fn(0, intT))
	isOf(t, sig(1, param("a", tyName("int"))), fn(1, intT))
	isOf(t, sig(1, param("int", tyName("string")), tyName("bool")), fn(1, strT, boolT))
	isOf(t, sig(2, param("a", tyPtr(tyName("S"))), param("a", tyName("T")), tyName("bool"), tyFunc(1, tyName("int"))), fn(2, ptr(name("S")), name("T"), boolT, fn(1, intT)))
}

func TestOfWrong(t *testing.T) {
	an := tyName("int")
	for why, n := range map[string]api.Node{
		"nothing":                             {},
		"other kind":                          node(9, "int", 0),
		"other kind 14":                       node(14, "", 0, an),
		"greatest kind":                       node(math.MaxInt, "int", 0),
		"least kind":                          node(math.MinInt, "int", 0),
		"a program":                           node(api.NProg, "", 0),
		"a struct":                            node(api.NStruct, "S", 0),
		"an interface":                        node(api.NIface, "I", 0),
		"a function":                          node(api.NFunc, "f", 0, sig(0), node(api.SBlock, "", 0)),
		"a field":                             node(api.NField, "f", 0, an),
		"a method":                            node(api.NField, "f", 0, sig(0)),
		"a parameter":                         param("a", an),
		"a block":                             node(api.SBlock, "", 0),
		"an expression":                       node(api.EName, "int", 0),
		"nil":                                 node(api.ENil, "", 0),
		"a function literal":                  node(api.EFunc, "", 0, sig(0), node(api.SBlock, "", 0)),
		"no name":                             tyName(""),
		"a word":                              tyName("nil"),
		"another word":                        tyName("func"),
		"no name by chapter 1":                tyName("1"),
		"a long name":                         tyName(longName + "n"),
		"a name with a number":                node(api.TyName, "S", 1),
		"a name with kids":                    node(api.TyName, "S", 0, an),
		"a pointer to nothing":                node(api.TyPtr, "", 0),
		"a pointer to two":                    node(api.TyPtr, "", 0, an, an),
		"a pointer with a text":               node(api.TyPtr, "*", 0, an),
		"a pointer with a number":             node(api.TyPtr, "", 1, an),
		"a pointer to a signature":            tyPtr(sig(0)),
		"a pointer to an expression":          tyPtr(node(api.EName, "S", 0)),
		"a slice of nothing":                  node(api.TySlice, "", 0),
		"a slice of two":                      node(api.TySlice, "", 0, an, an),
		"a slice with a text":                 node(api.TySlice, "[]", 0, an),
		"a slice with a number":               node(api.TySlice, "", -1, an),
		"a slice of a parameter":              tySlice(param("a", an)),
		"a function with a text":              node(api.TyFunc, "f", 0),
		"a function of -1":                    tyFunc(-1, an),
		"a function of too many":              tyFunc(2, an),
		"a function of least":                 tyFunc(math.MinInt, an),
		"a function of greatest":              tyFunc(math.MaxInt, an),
		"a function of a named parameter":     tyFunc(1, param("a", an)),
		"a function to a signature":           tyFunc(0, sig(0)),
		"a function with a wrong last":        tyFunc(1, an, an, tyName("")),
		"a signature with a text":             node(api.NSig, "f", 0),
		"a signature of -1":                   sig(-1, an),
		"a signature of too many":             sig(1),
		"a signature of greatest":             sig(math.MaxInt, param("a", an)),
		"a signature of a type":               sig(1, an),
		"a signature to a parameter":          sig(0, param("a", an)),
		"a signature with a nameless one":     sig(1, param("", an)),
		"a signature with a typeless one":     sig(1, node(api.NParam, "a", 0)),
		"a signature with a numbered one":     sig(1, node(api.NParam, "a", 1, an)),
		"a signature whose one has two":       sig(1, node(api.NParam, "a", 0, an, an)),
		"a signature whose one has a sig":     sig(1, param("a", sig(0))),
		"a signature to a signature":          sig(0, sig(0)),
		"a signature with a wrong last":       sig(0, an, tyName("")),
		"what is wrong far below a signature": sig(0, tyPtr(tySlice(tyPtr(tyName("if"))))),
	} {
		failsOf(t, why, n)
	}
}

// The whole, its declaration and a field stand above a type; the whole and a function above a signature, with its block beside it.
func TestOfDepth(t *testing.T) {
	deep := func(n int) api.Node {
		out := tyName("int")
		for range n - 1 {
			out = tyPtr(out)
		}
		return out
	}
	isOf(t, deep(api.MaxDepth-3), deepType(api.MaxDepth-3))
	failsOf(t, "a type one too deep", deep(api.MaxDepth-2))
	isOf(t, sig(0, deep(api.MaxDepth-3)), fn(0, deepType(api.MaxDepth-3)))
	failsOf(t, "a result one too deep", sig(0, deep(api.MaxDepth-2)))
	isOf(t, sig(1, param("a", deep(api.MaxDepth-4))), fn(1, deepType(api.MaxDepth-4)))
	failsOf(t, "a parameter one too deep", sig(1, param("a", deep(api.MaxDepth-3))))
}

func TestOfWidth(t *testing.T) {
	wide := func(kind, n int) api.Node {
		kids := make([]api.Node, n-1)
		for i := range kids {
			kids[i] = tyName("int")
		}
		return node(kind, "", 0, kids...)
	}
	isOf(t, wide(api.TyFunc, api.MaxNodes-3), wideType(api.MaxNodes-3))
	failsOf(t, "a type with a node too many", wide(api.TyFunc, api.MaxNodes-2))
	isOf(t, wide(api.NSig, api.MaxNodes-3), wideType(api.MaxNodes-3))
	failsOf(t, "a signature with a node too many", wide(api.NSig, api.MaxNodes-2))
}

func TestOfRings(t *testing.T) {
	for _, kind := range []int{api.TyPtr, api.TySlice, api.TyFunc, api.NSig} {
		for _, count := range []int{1, 40} {
			n := node(kind, "", 0, make([]api.Node, count)...)
			for i := range n.Kids {
				n.Kids[i] = n
			}
			failsOf(t, "a ring of kind "+strconv.Itoa(kind), n)
		}
	}
}
