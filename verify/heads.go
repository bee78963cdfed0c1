package verify

import (
	"slices"

	"halyard/api"
)

// heads gives up, if what stands around the functions' code is not right.
func heads(p api.Prog) {
	whole := place{}
	for _, l := range p.Types {
		whole.require(len(l.Fields) > 0 && free(l.Fields, len(p.Types)), api.ErrForms)
	}
	for f, fn := range p.Funcs {
		place{f: f}.require(headOf(fn, len(p.Types)), api.ErrForms)
		place{f: f}.require(f > 0 || fn.Params == 0 && len(fn.Results) == 0, api.ErrForms)
	}
	for _, items := range p.Tables {
		whole.require(oneForm(items, p.Funcs), api.ErrForms)
	}
	whole.require(len(p.Funcs) > 0, api.ErrForms)
}

// headOf: is a function's head right?
func headOf(fn api.Func, types int) bool {
	for _, kind := range fn.Locals {
		if !isKind(kind, types) {
			return false
		}
	}
	for _, t := range fn.Areas {
		if !within(t, types) {
			return false
		}
	}
	return free(fn.Results, types) && len(fn.Code) > 0
}

// free: are these kinds, and none of them Local?
func free(kinds []int, types int) bool {
	for _, kind := range kinds {
		if !isKind(kind, types) || kind >= api.Local {
			return false
		}
	}
	return true
}

// oneForm: are a table's items functions, one at least, that are called in one way?
func oneForm(items []int, funcs []api.Func) bool {
	for _, f := range items {
		if !within(f, len(funcs)) {
			return false
		}
		first, fn := funcs[items[0]], funcs[f]
		if !slices.Equal(parameters(first), parameters(fn)) || !slices.Equal(first.Results, fn.Results) {
			return false
		}
	}
	return len(items) > 0
}

// parameters: the kinds of a function's first locals, which a call fills.
func parameters(fn api.Func) []int { return fn.Locals[:fn.Params] }
