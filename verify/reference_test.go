package verify_test

import (
	"slices"
	"strconv"
	"strings"
	"testing"

	"halyard/api"
	"halyard/code"
	"halyard/verify"
)

// The second way: kinds are texts, all of which are written into a map at first; stacks are lists of texts, one for each instruction; the least one that waits is looked for from the first on. What instructions take and put is written as in the chapter's table.

// row of the chapter's table. Taken: a kind's text; "?" any; "ptr", "arr" of any type; "free ptr" without local; "fit X" what fits X. A name in capitals is worked out from A, B and what was taken.
type row struct{ takes, puts string }

var rows = map[int]row{
	api.OpInt:   {"", "word"},
	api.OpNil:   {"", "A"},
	api.OpGet:   {"", "LOCAL"},
	api.OpSet:   {"fit LOCAL", ""},
	api.OpPop:   {"?", ""},
	api.OpDup:   {"?", "TAKEN, TAKEN"},
	api.OpArith: {"word, word", "word"},
	api.OpSame:  {"?, ?", "word"},
	api.OpJump:  {"", ""},
	api.OpIf:    {"word", ""},
	api.OpNew:   {"", "PTRA"},
	api.OpMake:  {"word", "ARRA"},
	api.OpArea:  {"", "AREA"},
	api.OpLoad:  {"ptr", "FIELD"},
	api.OpStore: {"ptr, ?", ""},
	api.OpAddr:  {"ptr", "ADDR"},
	api.OpElem:  {"arr, word", "ELEM"},
	api.OpLen:   {"arr", "word"},
	api.OpBox:   {"free ptr", "any"},
	api.OpTag:   {"any", "word"},
	api.OpUnbox: {"any", "PTRA"},
	api.OpCall:  {"fit PARAMS", "RESULTS"},
	api.OpDyn:   {"fit PARAMS, word", "RESULTS"},
	api.OpRet:   {"fit OWN", ""},
	api.OpOut:   {"word", ""},
	api.OpPut:   {"word", ""},
	api.OpTrap:  {"word", ""},
	api.OpHalt:  {"", ""},
	api.OpStr:   {"", "ARRB"},
}

// judge looks at one program; judged is what it finds.
type judge struct {
	api.Prog
	names map[int]string
}

type judged struct {
	f, at  int
	e      api.Errno
	stacks [][][]string // of each function, of each instruction; nil, if it is not come to
}

func judgeOf(p api.Prog) *judge {
	j := &judge{p, map[int]string{0: "word", 1: "any"}}
	for t := range p.Types {
		n := strconv.Itoa(t)
		j.names[2+2*t], j.names[3+2*t] = "ptr "+n, "arr "+n
		j.names[1048578+2*t], j.names[1048579+2*t] = "local ptr "+n, "local arr "+n
	}
	return j
}

func judgement(p api.Prog) judged {
	if !code.Sound(p) {
		return judged{e: api.ErrForm}
	}
	j := judgeOf(p)
	if f, ok := j.heads(); !ok {
		return judged{f: f, e: api.ErrForms}
	}
	var all judged
	for f := range p.Funcs {
		stacks, at, e := j.code(f)
		if e != api.OK {
			return judged{f: f, at: at, e: e}
		}
		all.stacks = append(all.stacks, stacks)
	}
	return all
}

// texts: the kinds' texts; "?" for each number that is no kind.
func (j *judge) texts(kinds []int) []string {
	list := []string{}
	for _, k := range kinds {
		if name, ok := j.names[k]; ok {
			list = append(list, name)
		} else {
			list = append(list, "?")
		}
	}
	return list
}

// says: does this word stand in the kinds' texts?
func (j *judge) says(kinds []int, word string) bool {
	return strings.Contains(strings.Join(j.texts(kinds), ","), word)
}

func (j *judge) heads() (int, bool) {
	for _, l := range j.Types {
		if len(l.Fields) == 0 || j.says(l.Fields, "?") || j.says(l.Fields, "local") {
			return 0, false
		}
	}
	for f, fn := range j.Funcs {
		if j.says(fn.Locals, "?") || j.says(fn.Results, "?") || j.says(fn.Results, "local") || len(fn.Code) == 0 {
			return f, false
		}
		for _, t := range fn.Areas {
			if t < 0 || t >= len(j.Types) {
				return f, false
			}
		}
		if f == 0 && fn.Params+len(fn.Results) > 0 {
			return f, false
		}
	}
	for _, list := range j.Tables {
		forms := map[string]int{}
		for _, f := range list {
			if f < 0 || f >= len(j.Funcs) {
				return 0, false
			}
			fn := j.Funcs[f]
			forms[strings.Join(j.texts(fn.Locals[:fn.Params]), ",")+";"+strings.Join(j.texts(fn.Results), ",")]++
		}
		if len(forms) != 1 {
			return 0, false
		}
	}
	return 0, len(j.Funcs) > 0
}

// code: the stacks of a function, or where it is at fault.
func (j *judge) code(f int) ([][]string, int, api.Errno) {
	list := j.Funcs[f].Code
	stacks := make([][]string, len(list))
	looked := make([]bool, len(list))
	stacks[0] = []string{}
	for at := 0; at < len(list); at++ {
		if stacks[at] == nil || looked[at] {
			continue
		}
		looked[at] = true
		behind, e := j.step(f, list[at], stacks[at])
		if e != api.OK {
			return nil, at, e
		}
		nexts := []int{at + 1}
		switch list[at].Op {
		case api.OpJump:
			nexts = []int{list[at].A}
		case api.OpIf:
			nexts = append(nexts, list[at].A)
		case api.OpRet, api.OpTrap, api.OpHalt:
			nexts = nil
		}
		if slices.ContainsFunc(nexts, func(n int) bool { return n < 0 || n >= len(list) }) {
			return nil, at, api.ErrJump
		}
		for _, n := range nexts {
			if stacks[n] != nil && !slices.Equal(stacks[n], behind) {
				return nil, at, api.ErrStack
			}
			stacks[n] = behind
		}
		at = -1
	}
	return stacks, 0, api.OK
}

// counts: below which number A must be, and B; -1: any.
func (j *judge) counts(f int, op int) (int, int) {
	fn := j.Funcs[f]
	switch op {
	case api.OpGet, api.OpSet:
		return len(fn.Locals), -1
	case api.OpArith:
		return 10, -1
	case api.OpNew, api.OpMake, api.OpUnbox:
		return len(j.Types), -1
	case api.OpArea:
		return len(fn.Areas), -1
	case api.OpAddr:
		return -1, len(j.Types)
	case api.OpCall:
		return len(j.Funcs), -1
	case api.OpDyn:
		return len(j.Tables), -1
	case api.OpStr:
		return len(j.Strs), len(j.Types)
	}
	return -1, -1
}

// layout: the fields of a type as one text.
func (j *judge) layout(t int) string { return strings.Join(j.texts(j.Types[t].Fields), ", ") }

// step: the stack behind an instruction.
func (j *judge) step(f int, i api.Instr, stack []string) ([]string, api.Errno) {
	a, b := j.counts(f, i.Op)
	switch {
	case a >= 0 && (i.A < 0 || i.A >= a), b >= 0 && (i.B < 0 || i.B >= b):
		return nil, api.ErrRange
	case i.Op == api.OpNil && (j.names[i.A] == "" || i.A == 0):
		return nil, api.ErrRange
	case i.Op == api.OpStr && j.layout(i.B) != "word":
		return nil, api.ErrRange
	}
	wants := j.listed(f, i, rows[i.Op].takes)
	rest := len(stack) - len(wants)
	if rest < 0 || i.Op == api.OpRet && rest > 0 {
		return nil, api.ErrStack
	}
	taken := stack[rest:]
	for k, want := range wants {
		if !meets(taken[k], want) {
			return nil, api.ErrKind
		}
	}
	if i.Op == api.OpSame && (taken[0] == "word" || strings.TrimPrefix(taken[0], "local ") != strings.TrimPrefix(taken[1], "local ")) {
		return nil, api.ErrKind
	}
	behind := slices.Clone(stack[:rest])
	switch i.Op {
	case api.OpLoad, api.OpStore, api.OpAddr:
		return j.fields(i, taken, behind)
	case api.OpDup:
		return append(behind, taken[0], taken[0]), api.OK
	case api.OpElem:
		return append(behind, strings.Replace(taken[0], "arr", "ptr", 1)), api.OK
	}
	return append(behind, j.listed(f, i, rows[i.Op].puts)...), api.OK
}

// fields: what hangs on the type of the pointer that was taken.
func (j *judge) fields(i api.Instr, taken, behind []string) ([]string, api.Errno) {
	words := strings.Fields(taken[0])
	t, _ := strconv.Atoi(words[len(words)-1])
	list := j.texts(j.Types[t].Fields)
	switch {
	case i.A < 0 || i.A >= len(list):
		return nil, api.ErrRange
	case i.Op == api.OpLoad:
		return append(behind, list[i.A]), api.OK
	case i.Op == api.OpStore && taken[1] != list[i.A]:
		return nil, api.ErrKind
	case i.Op == api.OpStore:
		return behind, api.OK
	case j.layout(i.B) != list[i.A]:
		return nil, api.ErrRange
	}
	words[len(words)-1] = strconv.Itoa(i.B)
	return append(behind, strings.Join(words, " ")), api.OK
}

func meets(kind, want string) bool {
	switch want {
	case "?":
		return true
	case "ptr", "arr":
		return strings.Contains(kind, want)
	case "free ptr":
		return strings.HasPrefix(kind, "ptr")
	}
	if fit, ok := strings.CutPrefix(want, "fit "); ok {
		return kind == fit || "local "+kind == fit
	}
	return kind == want
}

// listed: a cell of the table, with what its names stand for.
func (j *judge) listed(f int, i api.Instr, cell string) []string {
	var list []string
	for _, word := range strings.Split(cell, ", ") {
		name, fit := strings.CutPrefix(word, "fit ")
		for _, kind := range j.named(f, i, name) {
			if fit {
				kind = "fit " + kind
			}
			list = append(list, kind)
		}
	}
	return list
}

func (j *judge) named(f int, i api.Instr, name string) []string {
	fn, to := j.Funcs[f], i.A
	if i.Op == api.OpDyn {
		list := j.Tables[i.A]
		to = list[len(list)-1]
	}
	switch name {
	case "":
		return nil
	case "A":
		return j.texts([]int{i.A})
	case "LOCAL":
		return j.texts(fn.Locals[i.A : i.A+1])
	case "PTRA":
		return []string{"ptr " + strconv.Itoa(i.A)}
	case "ARRA":
		return []string{"arr " + strconv.Itoa(i.A)}
	case "ARRB":
		return []string{"arr " + strconv.Itoa(i.B)}
	case "AREA":
		return []string{"local ptr " + strconv.Itoa(fn.Areas[i.A])}
	case "PARAMS":
		return j.texts(j.Funcs[to].Locals[:j.Funcs[to].Params])
	case "RESULTS":
		return j.texts(j.Funcs[to].Results)
	case "OWN":
		return j.texts(fn.Results)
	}
	return []string{name}
}

// hold: the three calls against the second way.
func hold(t *testing.T, p api.Prog) judged {
	t.Helper()
	want := judgement(p)
	if f, at, e := verify.Check(p); f != want.f || at != want.at || e != want.e {
		t.Fatalf("Check: %d at %d, %d; want %d at %d, %d; %s", e, f, at, want.e, want.f, want.at, told(p))
	}
	if want.e != api.OK {
		return want
	}
	j := judgeOf(p)
	for f, stacks := range want.stacks {
		got, come, e := verify.Stacks(p, f)
		if e != api.OK || len(got) != len(stacks) || len(come) != len(stacks) {
			t.Fatalf("Stacks of %d: %v, %v, %d; %s", f, got, come, e, told(p))
		}
		size := 0
		for at, list := range stacks {
			if come[at] != (list != nil) || !slices.Equal(j.texts(got[at]), append([]string{}, list...)) {
				t.Fatalf("Stacks of %d: at %d %v, %v; want %v; %s", f, at, got[at], come[at], list, told(p))
			}
			size = max(size, len(list))
		}
		for _, area := range p.Funcs[f].Areas {
			size += len(strings.Split(j.layout(area), ", "))
		}
		wantSize(t, p, f, size+len(p.Funcs[f].Locals))
	}
	return want
}

// P11.1, P11.2: every operation with every stack of up to three of some kinds, and with small A and B.
func TestAllSteps(t *testing.T) {
	some := []int{word, some, ptr(0), ptr(1), arr(0), arr(1), stays(ptr(1)), stays(arr(0))}
	stacks := [][]int{nil}
	for from := 0; len(stacks[from]) < 3; from++ {
		for _, k := range some {
			stacks = append(stacks, append(slices.Clone(stacks[from]), k))
		}
	}
	met := map[api.Errno]int{}
	for op := api.OpInt; op <= api.OpStr; op++ {
		for a := -1; a <= 7; a++ {
			for b := -1; b <= 7; b++ {
				if b != a && op != api.OpAddr && op != api.OpStr {
					continue
				}
				for _, ahead := range stacks {
					p := world(append(pushed(ahead...), in(op, a, b), halt)...)
					want := judgement(p)
					f, at, e := verify.Check(p)
					if f != want.f || at != want.at || e != want.e {
						t.Fatalf("%v behind %v: %d at %d, %d; want %d at %d, %d", in(op, a, b), ahead, e, f, at, want.e, want.f, want.at)
					}
					met[e]++
				}
			}
		}
	}
	for _, e := range []api.Errno{api.OK, api.ErrRange, api.ErrStack, api.ErrKind, api.ErrJump} {
		if met[e] < 500 {
			t.Errorf("the steps met too little: %v", met)
		}
	}
}
