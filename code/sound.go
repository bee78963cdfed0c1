package code

import "halyard/api"

// Sound: is a program within the limits?
func Sound(p api.Prog) bool {
	return each(p.Types, api.MaxTypes, soundLayout) &&
		each(p.Funcs, api.MaxFuncs, soundFunc) &&
		each(p.Tables, api.MaxTypes, soundTable) &&
		each(p.Strs, api.MaxTypes, soundText)
}

// each: are there at most so many items, and is each of them sound?
func each[T any](items []T, most int, sound func(T) bool) bool {
	if len(items) > most {
		return false
	}
	for _, item := range items {
		if !sound(item) {
			return false
		}
	}
	return true
}

func soundLayout(l api.Layout) bool { return len(l.Fields) <= api.MaxLocals }

func soundFunc(f api.Func) bool {
	return len(f.Locals) <= api.MaxLocals &&
		f.Params >= 0 && f.Params <= len(f.Locals) &&
		len(f.Results) <= api.MaxLocals &&
		len(f.Areas) <= api.MaxLocals &&
		each(f.Code, api.MaxCode, soundInstr)
}

func soundInstr(i api.Instr) bool { return i.Op >= api.OpInt && i.Op <= api.OpStr }

func soundTable(items []int) bool { return len(items) <= api.MaxFuncs }

func soundText(text string) bool { return len(text) <= api.MaxLen }
