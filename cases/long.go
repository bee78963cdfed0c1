package cases

import (
	"strings"

	"halyard/api"
)

func LongTexts() []Case {
	return []Case{
		{"s := \"a\"; for len(s) < 1024 { s = s + s; } print(len(s)); print(len(s + \"\")); t := text(s, 1) + text(\"b\", 2);", "1024 1024 1 2", "large"},
		{"s := \"a\"; for true { s = s + s; }", "", "large"}, {"s := \"a\"; for true { s = s + \"b\"; }", "", "large"},
		{"s := \"a\"; for len(s) < 1024 { s = s + s; } print(len(s[1:] + \"b\")); print(s + \"c\" == \"\");", "1024", "large"},
	}
}

// listOf: a list of so many values, the last of which is told.
func listOf(count int, last string) string {
	return "[]int{" + strings.Repeat("1, ", count-1) + last + "}"
}

func LongLists() []Case {
	return []Case{
		{"l := " + listOf(api.MaxLen, "say(5)") + "; print(len(l)); print(l[1023]); print(l[1022]);", "5 1024 5 1", ""},
		{"l := " + listOf(api.MaxLen+1, "say(5)") + ";", "5", "large"}, {"l := " + listOf(5000, "say(5)") + ";", "5", "large"}, {"l := " + listOf(api.MaxLen+1, "1 / 0") + ";", "", "zero"}, {"print(len(" + listOf(api.MaxLen+1, "2") + "));", "", "large"},
		{"l := append(list(" + listOf(api.MaxLen, "2") + ", 3), say(4));", "3 4", "large"}, {"l := " + listOf(api.MaxLen-1, "2") + "; l = append(l, 3); print(len(l)); print(l[1023]); m := l[:1023]; m = append(m, 4); print(l[1023]); l = append(l, 5);", "1024 3 4", "large"},
		{"l := " + listOf(api.MaxLen, "2") + "; m := append(l[1:], 7); print(len(m)); print(m[1023]); m = append(m, 8);", "1024 7", "large"}, {"l := " + listOf(api.MaxLen, "2") + "; m := append(l[:3], 7); print(l[3]); m = append(m[:1023], 9);", "7", "range"},
		{"var l []int; for true { l = append(l, len(l)); if len(l) == 1024 { print(l[1023]); } }", "1023", "large"}, {"var l []S; for len(l) < 1024 { l = append(l, S{len(l), nil}); } print(l[1000].a); p := &l[5]; l = append(l[:6], S{9, nil}); print(p.a); print(l[6].a);", "1000 5 9", ""},
		{"l := append(" + listOf(400, "2") + ", 3); for len(l) < 800 { l = append(l, 4); } m := append(l, 5); n := append(l, 6); print(m[800]); print(n[800]);", "5 6", ""}, {"l := append(" + listOf(511, "2") + ", 3); for len(l) < 1022 { l = append(l, 4); } m := append(l, 5); n := append(l, 6); print(m[1022]); print(n[1022]);", "5 6", ""},
		{"l := append(" + listOf(513, "2") + ", 3); for len(l) < 1023 { l = append(l, 4); } m := append(l, 5); n := append(l, 6); print(m[1023]); print(n[1023]);", "6 6", ""}, {"l := append(" + listOf(600, "2") + ", 3); m := append(l, 5); n := append(l, 6); print(m[601]); m = append(m[:599], 7); print(l[599]);", "6 7", ""},
		{"var l []E; for len(l) < 1024 { l = append(l, E{}); } print(len(l)); var p *E; l = append(l, *p);", "1024", "nil"}, {"var l []S; for len(l) < 1024 { l = append(l, S{1, nil}); } var p *S; l = append(l, *p);", "", "nil"},
	}
}
