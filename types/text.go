package types

import (
	"strings"

	"halyard/api"
)

// Text: a type's text.
func Text(t api.Type) string {
	if !sound(t) {
		return ""
	}
	var out strings.Builder
	write(&out, t)
	return out.String()
}

func write(out *strings.Builder, t api.Type) {
	switch t.Kind {
	case api.KInt:
		out.WriteString("int")
	case api.KBool:
		out.WriteString("bool")
	case api.KStr:
		out.WriteString("string")
	case api.KNil:
		out.WriteString("nil")
	case api.KName:
		out.WriteString(t.Name)
	case api.KPtr:
		out.WriteString("*")
		write(out, t.Kids[0])
	case api.KSlice:
		out.WriteString("[]")
		write(out, t.Kids[0])
	case api.KFunc:
		out.WriteString("func")
		writeList(out, t.Kids[:t.Num])
		writeResults(out, t.Kids[t.Num:])
	}
}

func writeResults(out *strings.Builder, list []api.Type) {
	if len(list) == 0 {
		return
	}
	out.WriteString(" ")
	if len(list) == 1 {
		write(out, list[0])
		return
	}
	writeList(out, list)
}

func writeList(out *strings.Builder, list []api.Type) {
	out.WriteString("(")
	for i, t := range list {
		if i > 0 {
			out.WriteString(", ")
		}
		write(out, t)
	}
	out.WriteString(")")
}
