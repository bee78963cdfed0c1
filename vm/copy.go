package vm

import (
	"slices"
	"strings"

	"halyard/api"
)

// copied: a program that shares nothing with p.
func copied(p api.Prog) api.Prog {
	var c api.Prog
	for _, t := range p.Types {
		c.Types = append(c.Types, api.Layout{Fields: slices.Clone(t.Fields)})
	}
	for _, fn := range p.Funcs {
		fn.Locals, fn.Results = slices.Clone(fn.Locals), slices.Clone(fn.Results)
		fn.Areas, fn.Code = slices.Clone(fn.Areas), slices.Clone(fn.Code)
		c.Funcs = append(c.Funcs, fn)
	}
	for _, items := range p.Tables {
		c.Tables = append(c.Tables, slices.Clone(items))
	}
	for _, text := range p.Strs {
		c.Strs = append(c.Strs, strings.Clone(text))
	}
	return c
}
