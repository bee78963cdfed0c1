package cases

func Slices() []Case {
	return []Case{
		{"s := []int{1, 2, 3}; t := s[1:]; t[0] = 9; print(s[1]); print(len(t)); u := t[1:]; u[0] = 8; print(s[2]); print(len(u[1:]));", "9 2 8 0", ""},
		{"s := []int{1, 2, 3, 4}; t := s[1:3]; print(len(t)); print(t[0]); print(t[1]); print(t[2]);", "2 2 3", "range"},
		{"s := []int{1, 2, 3}; t := s[0:1]; t = append(t, 9); print(s[1]); t = append(t, 8); print(s[2]); t = append(t, 7); t[0] = 5; print(s[0]); print(len(s));", "9 8 1 3", ""},
		{"s := []int{1, 2, 3}; t := s[1:2]; t = append(t, 9); print(s[2]); t = append(t, 8); t[0] = 5; print(s[1]); print(len(t));", "9 2 3", ""},
		{"s := []int{1, 2, 3}; t := s[3:]; print(len(t)); print(t == nil); t = append(t, 4); print(t[0]); print(len(s));", "0 false 4 3", ""},
		{"s := []int{1, 2}; t := s[:0]; t = append(t, 7); print(s[0]); print(len(t)); t = append(t[:0], 6); print(s[0]);", "7 1 6", ""},
		{"var s []int; print(s == nil); print(len(s)); t := s[:]; print(t == nil); print(s[0:0] == nil); print(s[0:] == nil); print(s[:0] != nil);", "true 0 true true true false", ""},
		{"var s []int; s = s[0:1];", "", "range"}, {"var s []int; s = s[1:];", "", "range"}, {"var s []int; print(s[0]);", "", "range"}, {"var s []int; s[0] = 1;", "", "range"}, {"var s []S; s[0].a = 1;", "", "range"}, {"var s []int; p := &s[0];", "", "range"},
		{"s := []int{}; print(s == nil); print(s != nil); print(len(s)); print(s[:] == nil); s = nil; print(s == nil);", "false true 0 false true", ""},
		{"s := []int{1, 2}; print(s[2]);", "", "range"}, {"s := []int{1, 2}; print(s[-1]);", "", "range"}, {"s := []int{1, 2}; s[2] = 1;", "", "range"}, {"s := []int{1, 2}; s[-1] = 1;", "", "range"}, {"s := []int{}; print(s[0]);", "", "range"},
		{"s := []int{1, 2, 3}; t := s[1:2]; print(t[0]); print(t[-1]);", "2", "range"}, {"s := []int{1, 2, 3}; t := s[2:]; t[-1] = 5;", "", "range"}, {"s := []int{1, 2, 3}; t := s[1:2]; t[1] = 5;", "", "range"}, {"s := []int{1, 2, 3}; t := s[1:2]; t = t[-1:];", "", "range"}, {"s := []int{1, 2, 3}; t := s[1:2]; t = t[:2];", "", "range"}, {"s := []S{S{1, nil}, S{2, nil}}; t := s[1:]; t[-1].a = 5;", "", "range"},
		{"s := []int{1, 2, 3}; print(s[9223372036854775807]);", "", "range"}, {"s := []int{1, 2, 3}; print(s[-9223372036854775807 - 1]);", "", "range"}, {"s := []int{1, 2, 3}; t := s[1:][9223372036854775807:];", "", "range"}, {"s := []int{1, 2, 3}; t := s[1:9223372036854775807];", "", "range"}, {"s := []int{1, 2, 3}; t := s[-9223372036854775807 - 1:];", "", "range"}, {"s := []int{1, 2, 3}; t := s[-9223372036854775807 - 1:-9223372036854775807];", "", "range"},
		{"s := append([]int{}, 1); t := s[:2];", "", "range"}, {"s := append([]int{}, 1); t := s[1:]; print(len(t)); t = s[2:];", "0", "range"}, {"s := append([]int{}, 1); print(s[1]);", "", "range"},
		{"s := []int{1, 2}; t := s[2:1];", "", "range"}, {"s := []int{1, 2}; t := s[-1:1];", "", "range"}, {"s := []int{1, 2}; t := s[:3];", "", "range"}, {"s := []int{1, 2}; t := s[3:];", "", "range"}, {"s := []int{1, 2}; t := s[0:-1];", "", "range"},
		{"s := []int{1, 2}; t := s; t[0] = 3; print(s[0]); s = append(s, 4); print(len(t)); print(len(s));", "3 2 3", ""},
		{"f := func(s []int) { s[0] = 7; s = append(s, 1); s[0] = 8; }; l := []int{1}; f(l); print(l[0]); print(len(l));", "7 1", ""},
		{"s := [][]int{[]int{1}, nil, []int{}}; print(s[1] == nil); print(s[2] == nil); s[1] = append(s[1], 5); print(s[1][0]); s[0][0] = 6; t := s[0]; print(t[0]);", "true false 5 6", ""},
		{"s := []I{&S{1, nil}, nil, &T{3, nil, nil, nil, \"\", true}}; print(s[0].m(1)); print(s[1] == nil); print(s[2].m(2)); s[0], s[2] = s[2], s[0]; print(s[0].m(1));", "2 true 6 3", ""},
		{"s := []func(int) int{inc, nil}; print(s[0](1)); print(s[1] == nil); s[1] = s[0]; print(s[1](2)); s = append(s, nil); print(s[2] == nil);", "2 true 3 true", ""},
		{"s := []*S{nil, &S{1, nil}}; print(s[0] == nil); print(s[0].m(4)); s = append(s, nil); print(s[2].m(5)); s = append(s, nil); print(s[3].m(6)); s[1] = nil; print(s[1].m(7));", "true 4 5 6 7", ""},
	}
}

func Append() []Case {
	return []Case{
		{"var s []int; s = append(s, 1); t := append(s, 2); u := append(s, 3); print(t[1]); print(len(s)); print(len(u));", "3 1 2", ""},
		{"s := []int{1}; t := append(s, 2); u := append(s, 3); print(t[1]); t[0] = 7; print(s[0]); print(u[0]);", "2 1 1", ""},
		{"s := append([]int{1, 2, 3}, 4); t := append(s, 5); u := append(s, 6); print(t[4]);", "5", ""},
		{"s := append([]int{1, 2}, 3); t := append(s, 5); u := append(s, 6); print(t[3]);", "6", ""},
		{"s := append([]int{1, 2, 3, 4}, 5); t := append(append(append(s, 6), 7), 8); u := append(s, 9); print(t[5]); v := append(t, 1); w := append(t, 2); print(v[8]);", "9 1", ""},
		{"var s []I; s = append(s, nil); s = append(s, &S{2, nil}); print(s[0] == nil); print(s[1].m(1)); s = append(s[:0], s[1]); print(s[0].m(1)); s = append(s[:0], nil); print(s[0] == nil);", "true 3 4 true", ""},
		{"var s [][]int; s = append(s, nil); s = append(s, []int{}); s = append(s, nil); print(s[0] == nil); print(s[1] == nil); print(s[2] == nil); s[2] = append(s[2], 1); print(s[2][0]);", "true false true 1", ""},
		{"s := []int{1}; f := func() int { s = append(s, 8); s[0] = 3; return 9; }; t := append(s, f()); print(len(t)); print(t[0]); print(t[1]); print(s[1]);", "2 1 9 8", ""},
		{"s := append(list(nil, 1), say(2)); print(len(s));", "1 2 1", ""},
		{"var s []S; s = append(s, S{1, nil}); t := append(s, S{2, nil}); p := &t[1]; u := append(s, S{3, nil}); print(p.a); print(&u[1] == p); print(&u[0] == &s[0]);", "3 true true", ""},
	}
}
