package parse_test

import (
	"math/rand"
	"slices"
	"strings"
	"testing"

	"halyard/api"
	"halyard/parse"
	"halyard/scan"
)

// The chapter's grammar as plain rules, by which a second reader (Earley's) knows of every beginning whether a program goes on with it.
// H@ are the expressions of a head, outside of its brackets. NEVER stands in no text: with it, all expressions go on up to the mark behind them, at which := and = and ; are told.
const grammarRules = `
program = | program decl
decl = type NAME struct { fields } | type NAME interface { methods } | func NAME sig block | func ( NAME * NAME ) NAME sig block
fields = | fields NAME typ ;
methods = | methods NAME sig ;
sig = ( ) results | ( params ) results
params = NAME typ | params , NAME typ
results = | typ | ( typs )
typs = typ | typs , typ
typ = NAME | * typ | [ ] typ | func ( ) results | func ( typs ) results
block = { stmts }
stmts = | stmts stmt
stmt = var NAME typ ; | var NAME typ = or ; | names := exprs ; | places = exprs ; | call ; | exprs NEVER
stmt = ifs | for block | for Hor block | return ; | return exprs ; | break ; | continue ; | block
ifs = if Hor block | if Hor block else block | if Hor block else ifs
exprs = or | exprs , or
names = name | names , name
name = NAME | ( name )
places = place | places , place
place = NAME | post . NAME | post [ or ] | * unary | ( place )
call = post ( args ) | ( call )
args = | exprs
edge = | or
primary = NAME { args }
`

// rulesOfBoth hold with @ for nothing and for H.
const rulesOfBoth = `
@or = @and | @or || @and
@and = @same | @and && @same
@same = @sum | @same == @sum | @same != @sum | @same < @sum | @same <= @sum | @same > @sum | @same >= @sum
@sum = @product | @sum + @product | @sum - @product
@product = @unary | @product * @unary | @product / @unary | @product % @unary
@unary = @post | - @unary | ! @unary | & @unary | * @unary
@post = @primary | @post . NAME | @post [ or ] | @post [ edge : edge ] | @post ( args )
@primary = INT | STRING | true | false | nil | NAME | ( or ) | [ ] typ { args } | func sig block
`

type rule struct {
	left  int
	right []int
}

// grammar: symbols are numbered; those with rules have a list of them.
type grammar struct {
	symbols map[string]int
	rules   []rule
	of      map[int][]int
	empty   map[int]bool
}

func newGrammar() *grammar {
	g := &grammar{symbols: map[string]int{}, of: map[int][]int{}, empty: map[int]bool{}}
	all := grammarRules + strings.ReplaceAll(rulesOfBoth, "@", "") + strings.ReplaceAll(rulesOfBoth, "@", "H")
	for line := range strings.Lines(all) {
		words := strings.Fields(line)
		if len(words) == 0 {
			continue
		}
		r := rule{left: g.symbol(words[0])}
		for _, w := range append(words[2:], "|") {
			if w == "|" {
				g.of[r.left] = append(g.of[r.left], len(g.rules))
				g.rules = append(g.rules, r)
				g.empty[r.left] = g.empty[r.left] || len(r.right) == 0
				r.right = nil
				continue
			}
			r.right = append(r.right, g.symbol(w))
		}
	}
	return g
}

func (g *grammar) symbol(word string) int {
	if _, ok := g.symbols[word]; !ok {
		g.symbols[word] = len(g.symbols)
	}
	return g.symbols[word]
}

func (g *grammar) symbolOf(t api.Token) int {
	switch t.Kind {
	case api.TName:
		return g.symbols["NAME"]
	case api.TInt:
		return g.symbols["INT"]
	case api.TStr:
		return g.symbols["STRING"]
	}
	return g.symbols[t.Text]
}

type item struct{ rule, dot, from int }

type itemSet struct {
	list []item
	seen map[item]bool
}

func (s *itemSet) add(i item) {
	if !s.seen[i] {
		s.seen[i] = true
		s.list = append(s.list, i)
	}
}

// chart: the items behind each token that was read.
type chart struct {
	*grammar
	sets []*itemSet
}

func (g *grammar) chart() *chart {
	c := &chart{grammar: g, sets: []*itemSet{{seen: map[item]bool{}}}}
	for _, r := range g.of[g.symbols["program"]] {
		c.sets[0].add(item{rule: r})
	}
	c.complete()
	return c
}

func (c *chart) complete() {
	here := len(c.sets) - 1
	set := c.sets[here]
	for i := 0; i < len(set.list); i++ {
		it := set.list[i]
		r := c.rules[it.rule]
		if it.dot == len(r.right) {
			for _, up := range c.sets[it.from].list {
				if right := c.rules[up.rule].right; up.dot < len(right) && right[up.dot] == r.left {
					set.add(item{up.rule, up.dot + 1, up.from})
				}
			}
			continue
		}
		for _, r := range c.of[r.right[it.dot]] {
			set.add(item{r, 0, here})
		}
		if c.empty[r.right[it.dot]] {
			set.add(item{it.rule, it.dot + 1, it.from})
		}
	}
}

// read: does some program go on with this symbol?
func (c *chart) read(symbol int) bool {
	next := &itemSet{seen: map[item]bool{}}
	for _, it := range c.sets[len(c.sets)-1].list {
		if right := c.rules[it.rule].right; it.dot < len(right) && right[it.dot] == symbol {
			next.add(item{it.rule, it.dot + 1, it.from})
		}
	}
	if len(next.list) == 0 {
		return false
	}
	c.sets = append(c.sets, next)
	c.complete()
	return true
}

// whole: is what was read a program?
func (c *chart) whole() bool {
	for _, it := range c.sets[len(c.sets)-1].list {
		r := c.rules[it.rule]
		if it.from == 0 && it.dot == len(r.right) && r.left == c.symbols["program"] {
			return true
		}
	}
	return false
}

// next: the symbols of tokens with which a program goes on, sorted.
func (c *chart) next() []string {
	found := map[int]bool{}
	for _, it := range c.sets[len(c.sets)-1].list {
		if right := c.rules[it.rule].right; it.dot < len(right) {
			found[right[it.dot]] = true
		}
	}
	var list []string
	for word, symbol := range c.symbols {
		if found[symbol] && len(c.of[symbol]) == 0 && word != "NEVER" {
			list = append(list, word)
		}
	}
	slices.Sort(list)
	return list
}

// placeByGrammar: what Parse answers of a text, but for its tree and for trees that are too large.
func placeByGrammar(g *grammar, src string) (int, api.Errno) {
	list, at, e := scan.Scan(src)
	if e != api.OK {
		return at, e
	}
	c := g.chart()
	for _, t := range list {
		if !c.read(g.symbolOf(t)) {
			return t.At, api.ErrText
		}
	}
	if !c.whole() {
		return len(src), api.ErrText
	}
	return 0, api.OK
}

func holdAgainstGrammar(t *testing.T, g *grammar, src string) {
	t.Helper()
	at, e := placeByGrammar(g, src)
	n, gotAt, got := parse.Parse(src)
	if got == api.ErrLarge && gotAt == 0 && e == api.OK {
		return
	}
	if got != e || gotAt != at {
		t.Fatalf("Parse(%q): %d at %d; want %d at %d", src, got, gotAt, e, at)
	}
	if e == api.OK && !parse.Sound(n) {
		t.Fatalf("Parse(%q) is not sound: %v", src, n)
	}
	if e != api.OK && !isZero(n) {
		t.Fatalf("Parse(%q) has a tree beside its error: %v", src, n)
	}
}

// spelt: a token's text, with its symbol as the text of marks and words.
func spelt(symbol string, pick *rand.Rand) string {
	switch symbol {
	case "NAME":
		return []string{"a", "b", "T", "print"}[pick.Intn(4)]
	case "INT":
		return []string{"0", "7", "9223372036854775807"}[pick.Intn(3)]
	case "STRING":
		return []string{`""`, `"a"`, `"{"`, `";"`, `"func"`}[pick.Intn(5)]
	}
	return symbol
}

var tokenSymbols = strings.Fields("NAME INT STRING type struct interface func var if else for return break continue true false nil ( ) { } [ ] , ; . : := = == != < <= > >= + - * / % & && || !")

// P2.1: after each of some beginnings, each token and each pair of tokens; the place of the first one with which no program goes on.
func TestParseAfterBeginnings(t *testing.T) {
	g := newGrammar()
	pick := rand.New(rand.NewSource(1))
	for _, so := range []string{
		"", "type", "type T", "type T struct", "type T struct {", "type T struct { a", "type T struct { a int", "type I interface {", "type I interface { m", "type I interface { m ( )", "type I interface { m ( ) ( int",
		"func", "func (", "func ( p", "func ( p *", "func ( p * T", "func ( p * T )", "func ( p * T ) m", "func f (", "func f ( a", "func f ( a int", "func f ( )", "func f ( ) (", "func f ( ) ( int", "func f ( ) func (", "func f ( ) func ( int )",
		"func f ( ) {", "func f ( ) { var", "func f ( ) { var a", "func f ( ) { var a int", "func f ( ) { var a int = 1", "func f ( ) { a", "func f ( ) { ( a )", "func f ( ) { a ,", "func f ( ) { a , b", "func f ( ) { a , 1", "func f ( ) { a + b", "func f ( ) { a . b", "func f ( ) { a [ 1 ]", "func f ( ) { a [ : ]", "func f ( ) { * a", "func f ( ) { ( * a )", "func f ( ) { - a", "func f ( ) { a ( )", "func f ( ) { ( a ( ) )", "func f ( ) { a ( ) , a",
		"func f ( ) { a :=", "func f ( ) { a := 1", "func f ( ) { a =", "func f ( ) { a = 1 ,", "func f ( ) { a ( )", "func f ( ) { a (", "func f ( ) { a ( 1", "func f ( ) { a [", "func f ( ) { a [ 1", "func f ( ) { a [ 1 :", "func f ( ) { a [ :", "func f ( ) { a [ 1 : 2", "func f ( ) { T {", "func f ( ) { T { 1", "func f ( ) { T { }", "func f ( ) { [ ]", "func f ( ) { [ ] T", "func f ( ) { [ ] T {",
		"func f ( ) { if", "func f ( ) { if a", "func f ( ) { if a {", "func f ( ) { if a { }", "func f ( ) { if a { } else", "func f ( ) { if a { } else if", "func f ( ) { if ( a", "func f ( ) { if ( a { }", "func f ( ) { if a [", "func f ( ) { if a [ b {", "func f ( ) { if a ( b {", "func f ( ) { if [ ] T {", "func f ( ) { if [ ] T { b {", "func f ( ) { if func ( ) {", "func f ( ) { if func ( ) { b {", "func f ( ) { if func ( ) { if b {", "func f ( ) { if a . b", "func f ( ) { if - a",
		"func f ( ) { for", "func f ( ) { for a", "func f ( ) { for {", "func f ( ) { for a { }", "func f ( ) { for ( a { 1", "func f ( ) { return", "func f ( ) { return a", "func f ( ) { return func", "func f ( ) { return func ( ) T", "func f ( ) { return ( a", "func f ( ) { return a {", "func f ( ) { break", "func f ( ) { continue", "func f ( ) { { }", "func f ( ) { }",
	} {
		c := g.chart()
		list, _, _ := scan.Scan(so)
		for _, token := range list {
			if !c.read(g.symbolOf(token)) {
				t.Fatalf("%s is no beginning", so)
			}
		}
		goOn(t, c, so, 2, pick)
	}
}

// goOn: with each token behind a beginning, Parse answers as the chart does; and so on with those behind which a program goes on.
func goOn(t *testing.T, c *chart, so string, most int, pick *rand.Rand) {
	size := len(c.sets)
	for _, symbol := range tokenSymbols {
		src := so + " " + spelt(symbol, pick)
		at, want := len(src), api.ErrText
		good := c.read(c.symbols[symbol])
		if !good {
			at = len(so) + 1
		} else if c.whole() {
			at, want = 0, api.OK
		}
		if gotAt, got := placeOf(src); got != want || gotAt != at {
			t.Errorf("Parse(%q): %d at %d; want %d at %d", src, got, gotAt, want, at)
		}
		if good && most > 1 {
			goOn(t, c, src, most-1, pick)
		}
		c.sets = c.sets[:size]
	}
}

// randomText: tokens with which a program goes on, but for some that are any.
func randomText(g *grammar, pick *rand.Rand, size, wrong int) string {
	c := g.chart()
	var out []string
	for len(out) < size {
		list := c.next()
		if wrong > 0 && pick.Intn(wrong) == 0 {
			list = tokenSymbols
		}
		symbol := list[pick.Intn(len(list))]
		out = append(out, spelt(symbol, pick))
		if !c.read(g.symbols[symbol]) {
			break
		}
	}
	return strings.Join(append(out, strings.Fields("; } }")[:pick.Intn(4)]...), " ")
}

func TestParseRandomTokens(t *testing.T) {
	g := newGrammar()
	pick := rand.New(rand.NewSource(2))
	for range 1500 {
		holdAgainstGrammar(t, g, randomText(g, pick, 40, 60))
	}
}

// changed: the tokens with one of them dropped, doubled, put elsewhere or made another.
func changed(list []string, pick *rand.Rand) []string {
	list = slices.Clone(list)
	i := pick.Intn(len(list))
	switch pick.Intn(4) {
	case 0:
		return slices.Delete(list, i, i+1)
	case 1:
		return slices.Insert(list, pick.Intn(len(list)), list[i])
	case 2:
		j := pick.Intn(len(list))
		list[i], list[j] = list[j], list[i]
		return list
	}
	list[i] = spelt(tokenSymbols[pick.Intn(len(tokenSymbols))], pick)
	return list
}

func TestParseChangedPrograms(t *testing.T) {
	g := newGrammar()
	pick := rand.New(rand.NewSource(3))
	for range 1500 {
		list := strings.Fields(rendered(randomProgram(pick, 40), pick))
		for range pick.Intn(3) {
			if len(list) > 0 {
				list = changed(list, pick)
			}
		}
		holdAgainstGrammar(t, g, strings.Join(list, " "))
	}
}

func FuzzParse(f *testing.F) {
	for _, s := range goodTexts {
		f.Add(s)
	}
	g := newGrammar()
	f.Fuzz(func(t *testing.T, s string) {
		if len(s) < 1000 {
			holdAgainstGrammar(t, g, s)
		}
	})
}
