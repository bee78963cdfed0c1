package code_test

import (
	"math"
	"slices"
	"strings"
	"testing"

	"halyard/api"
	"halyard/code"
)

// The limits are written as the document has them, so that they are not taken for right because api says so.
const (
	mostTypes  = 1024
	mostLocals = 4096
	mostFuncs  = 4096
	mostCode   = 65536
	mostTables = 1024
	mostItems  = 4096
	mostStrs   = 1024
	mostText   = 1024
	mostBytes  = 4194304
)

// withFunc is a program whose second of three functions is this one.
func withFunc(f api.Func) api.Prog { return api.Prog{Funcs: []api.Func{{}, f, {}}} }

func withInstr(i api.Instr) api.Prog {
	return withFunc(api.Func{Code: []api.Instr{{Op: api.OpHalt}, i, {Op: api.OpHalt}}})
}

func instrs(n int) []api.Instr { return slices.Repeat([]api.Instr{{Op: api.OpPop}}, n) }

// P10.1, P10.2: each limit holds, and one beyond it does not.
func TestLimits(t *testing.T) {
	for name, c := range map[string]struct {
		most int
		with func(n int) api.Prog
	}{
		"types":     {mostTypes, func(n int) api.Prog { return api.Prog{Types: make([]api.Layout, n)} }},
		"fields":    {mostLocals, func(n int) api.Prog { return api.Prog{Types: []api.Layout{{}, {Fields: make([]int, n)}, {}}} }},
		"functions": {mostFuncs, func(n int) api.Prog { return api.Prog{Funcs: make([]api.Func, n)} }},
		"locals":    {mostLocals, func(n int) api.Prog { return withFunc(api.Func{Locals: make([]int, n)}) }},
		"params":    {mostLocals, func(n int) api.Prog { return withFunc(api.Func{Params: n, Locals: make([]int, n)}) }},
		"results":   {mostLocals, func(n int) api.Prog { return withFunc(api.Func{Results: make([]int, n)}) }},
		"areas":     {mostLocals, func(n int) api.Prog { return withFunc(api.Func{Areas: make([]int, n)}) }},
		"code":      {mostCode, func(n int) api.Prog { return withFunc(api.Func{Code: instrs(n)}) }},
		"tables":    {mostTables, func(n int) api.Prog { return api.Prog{Tables: make([][]int, n)} }},
		"items":     {mostItems, func(n int) api.Prog { return api.Prog{Tables: [][]int{nil, make([]int, n), nil}} }},
		"strs":      {mostStrs, func(n int) api.Prog { return api.Prog{Strs: make([]string, n)} }},
		"text":      {mostText, func(n int) api.Prog { return api.Prog{Strs: []string{"", strings.Repeat("x", n), ""}} }},
	} {
		t.Run(name, func(t *testing.T) {
			for _, n := range []int{0, 1, c.most - 1, c.most} {
				p := c.with(n)
				wantBoth(t, p, spelled(p))
			}
			for _, n := range []int{c.most + 1, 2 * c.most} {
				wantUnsound(t, c.with(n))
			}
		})
	}
}

// P10.1: Results and Areas are counted each by itself, with the Locals too.
func TestLimitsTogether(t *testing.T) {
	list := make([]int, mostLocals)
	p := withFunc(api.Func{Params: mostLocals, Locals: list, Results: list, Areas: list, Code: instrs(mostCode)})
	p.Types = []api.Layout{{Fields: list}, {Fields: list}}
	p.Tables = [][]int{list, list}
	p.Strs = []string{strings.Repeat("x", mostText), strings.Repeat("y", mostText)}
	wantBoth(t, p, spelled(p))
}

// P10.1, P10.2: Params are from 0 to the number of Locals.
func TestParams(t *testing.T) {
	for locals := range 4 {
		for params := range locals + 1 {
			p := withFunc(api.Func{Params: params, Locals: make([]int, locals)})
			wantBoth(t, p, spelled(p))
		}
		for _, params := range []int{-1, locals + 1, -locals - 1, 4096, 1 << 32, -1 << 32, math.MinInt, math.MaxInt} {
			wantUnsound(t, withFunc(api.Func{Params: params, Locals: make([]int, locals)}))
		}
	}
}

// P10.1, P10.2: Op is from OpInt to OpStr; A and B are anything.
func TestOps(t *testing.T) {
	ends := []int{0, -1, 1, 1 << 32, math.MinInt, math.MaxInt}
	for op := 1; op <= 29; op++ {
		for _, n := range ends {
			p := withInstr(api.Instr{Op: op, A: n, B: -n})
			wantBoth(t, p, spelled(p))
		}
	}
	for _, op := range []int{0, -1, 30, 31, -29, 1<<8 + 1, 1<<32 + 1, -1<<32 + 1, math.MinInt, math.MinInt + 1, math.MaxInt} {
		wantUnsound(t, withInstr(api.Instr{Op: op}))
	}
}

// P10.1: a program may be sound by this chapter and still mean nothing: kinds, types and functions that there are none of.
func TestMeaningless(t *testing.T) {
	wild := []int{-1, 9999, math.MinInt, math.MaxInt}
	p := api.Prog{Types: []api.Layout{{Fields: wild}}, Tables: [][]int{wild}, Funcs: []api.Func{{Params: 3, Locals: wild, Results: wild, Areas: wild}}}
	wantBoth(t, p, spelled(p))
}

// sized is a sound program of so many bytes, which must be near the most, with them.
func sized(t *testing.T, n int) (api.Prog, []byte) {
	t.Helper()
	p := api.Prog{Types: make([]api.Layout, 1000), Tables: make([][]int, 24)}
	for i := range p.Types {
		p.Types[i].Fields = make([]int, mostLocals)
	}
	for i := range p.Tables {
		p.Tables[i] = make([]int, mostItems)
	}
	p.Tables[7] = make([]int, 1000)
	p.Tables[7] = make([]int, 1000+n-len(spelled(p)))
	b := spelled(p)
	if len(b) != n || !within(p) {
		t.Fatalf("a program of %d bytes, not %d, sound: %v", len(b), n, within(p))
	}
	return p, b
}

// P10.1, P10.2: MaxBytes bytes are not too many, one more is.
func TestMostBytes(t *testing.T) {
	for _, n := range []int{mostBytes - 1, mostBytes} {
		p, b := sized(t, n)
		wantBoth(t, p, b)
	}
	for _, n := range []int{mostBytes + 1, mostBytes + 2, mostBytes + 1000} {
		p, b := sized(t, n)
		wantSound(t, p, true)
		wantEncode(t, p, nil, api.ErrLong)
		wantDecode(t, b, api.Prog{}, api.ErrLong)
	}
}

// P10.1: the bytes may become too many in each part, and by its last byte.
func TestTooLongAnywhere(t *testing.T) {
	list := slices.Repeat([]int{math.MinInt}, mostLocals)
	code := slices.Repeat([]api.Instr{{Op: 1, A: math.MinInt, B: math.MaxInt}}, mostCode)
	for name, p := range map[string]api.Prog{
		"fields":  {Types: slices.Repeat([]api.Layout{{Fields: list}}, mostTypes)},
		"locals":  {Funcs: slices.Repeat([]api.Func{{Params: 1, Locals: list}}, mostFuncs)},
		"results": {Funcs: slices.Repeat([]api.Func{{Results: list}}, mostFuncs)},
		"areas":   {Funcs: slices.Repeat([]api.Func{{Areas: list}}, mostFuncs)},
		"code":    {Funcs: slices.Repeat([]api.Func{{Code: code}}, 200)},
		"items":   {Tables: slices.Repeat([][]int{list}, mostTables)},
	} {
		t.Run(name, func(t *testing.T) {
			wantSound(t, p, true)
			wantEncode(t, p, nil, api.ErrLong)
		})
	}
	p, _ := sized(t, mostBytes)
	p.Strs = []string{""}
	wantEncode(t, p, nil, api.ErrLong)
	p, _ = sized(t, mostBytes-2)
	p.Strs = []string{"x"}
	wantBoth(t, p, spelled(p))
	p.Strs = []string{"xy"}
	wantEncode(t, p, nil, api.ErrLong)
}

// R2: of two errors of Encode, that the program is not sound is told.
func TestUnsoundAheadOfLong(t *testing.T) {
	p, _ := sized(t, mostBytes+1)
	p.Strs = []string{strings.Repeat("x", mostText+1)}
	wantEncode(t, p, nil, api.ErrForm)
	p, _ = sized(t, mostBytes+1)
	p.Funcs = []api.Func{{Code: []api.Instr{{}}}}
	wantEncode(t, p, nil, api.ErrForm)
}

// R2: of several errors of Decode, too many bytes are told first, wrong bytes next, and only then what is not sound.
func TestOrderOfErrors(t *testing.T) {
	wantDecode(t, make([]byte, mostBytes), api.Prog{}, api.ErrText)
	wantDecode(t, make([]byte, mostBytes+1), api.Prog{}, api.ErrLong)
	wantDecode(t, append(fullBytes(), make([]byte, mostBytes)...), api.Prog{}, api.ErrLong)
	unsound := spelled(withInstr(api.Instr{Op: 30}))
	wantDecode(t, unsound, api.Prog{}, api.ErrForm)
	wantDecode(t, unsound[:len(unsound)-1], api.Prog{}, api.ErrText)
	wantDecode(t, append(unsound, 0), api.Prog{}, api.ErrText)
	wantDecode(t, append(unsound, make([]byte, mostBytes)...), api.Prog{}, api.ErrLong)
	many := spelled(api.Prog{Types: make([]api.Layout, mostTypes+1)})
	wantDecode(t, many, api.Prog{}, api.ErrForm)
	many[len(many)-1] = 1
	wantDecode(t, many, api.Prog{}, api.ErrText)
}

// P10.2: as many bytes as may be, of a program that is far from sound.
func TestManyUnsound(t *testing.T) {
	p := api.Prog{Types: make([]api.Layout, mostBytes-3-4-3)}
	b := spelled(p)
	if len(b) != mostBytes {
		t.Fatalf("%d bytes", len(b))
	}
	if q, e := code.Decode(b); e != api.ErrForm || !same(q, api.Prog{}) {
		t.Errorf("Decode: %d", e)
	}
	b[len(b)-1] = 2
	if q, e := code.Decode(b); e != api.ErrText || !same(q, api.Prog{}) {
		t.Errorf("Decode: %d", e)
	}
}
