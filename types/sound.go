package types

import (
	"slices"
	"strings"

	"halyard/api"
	"halyard/scan"
)

// sound: is it a type? It gives up at the first part beyond the limits, for a list may hold itself.
func sound(t api.Type) bool {
	left := api.MaxNodes
	return soundPart(t, api.MaxDepth, &left)
}

func soundPart(t api.Type, deep int, left *int) bool {
	if deep == 0 || *left == 0 || !soundOwn(t) {
		return false
	}
	*left--
	for _, kid := range t.Kids {
		if kid.Kind == api.KNil || !soundPart(kid, deep-1, left) {
			return false
		}
	}
	return true
}

// soundOwn: a type's own fields, whatever its Kids are.
func soundOwn(t api.Type) bool {
	switch t.Kind {
	case api.KInt, api.KBool, api.KStr, api.KNil:
		return t.Name == "" && t.Num == 0 && len(t.Kids) == 0
	case api.KName:
		return freeName(t.Name) && t.Num == 0 && len(t.Kids) == 0
	case api.KPtr, api.KSlice:
		return t.Name == "" && t.Num == 0 && len(t.Kids) == 1
	case api.KFunc:
		return t.Name == "" && 0 <= t.Num && t.Num <= len(t.Kids)
	}
	return false
}

// freeName: a name that a type may be declared with.
func freeName(name string) bool { return kindOf(name) == api.KName && scan.Name(name) }

// kindOf: the kind of what a type's name stands for.
func kindOf(name string) int {
	switch name {
	case "int":
		return api.KInt
	case "bool":
		return api.KBool
	case "string":
		return api.KStr
	}
	return api.KName
}

// same and copied are for sound types: others may have no end.

func same(a, b api.Type) bool {
	return a.Kind == b.Kind && a.Name == b.Name && a.Num == b.Num && slices.EqualFunc(a.Kids, b.Kids, same)
}

// copied: the names too, so that an answer shares nothing with what was handed in.
func copied(t api.Type) api.Type {
	return api.Type{Kind: t.Kind, Name: strings.Clone(t.Name), Num: t.Num, Kids: each(t.Kids, copied)}
}

func copiedField(f api.Field) api.Field {
	return api.Field{Name: strings.Clone(f.Name), Type: copied(f.Type)}
}

func each[A, B any](list []A, made func(A) B) []B {
	if len(list) == 0 {
		return nil
	}
	out := make([]B, len(list))
	for i, a := range list {
		out[i] = made(a)
	}
	return out
}

func every[A any](list []A, is func(A) bool) bool {
	for _, a := range list {
		if !is(a) {
			return false
		}
	}
	return true
}
