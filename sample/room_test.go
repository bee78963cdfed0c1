package sample_test

import (
	"reflect"
	"testing"

	"halyard/api"
	"halyard/sample"
)

func TestProgInRoom(t *testing.T) {
	p := api.Prog{
		Types:  []api.Layout{{Fields: []int{0}}},
		Funcs:  []api.Func{{Locals: []int{1}, Results: []int{2}, Areas: []int{3}, Code: []api.Instr{{Op: 4}}}},
		Tables: [][]int{{5}}, Strs: []string{"6"},
	}
	q := sample.ProgInRoom(p)
	if !reflect.DeepEqual(p, q) {
		t.Errorf("%v; want %v", q, p)
	}
	all := sample.ProgOpened(q)
	if len(all.Types) < 4 || len(all.Funcs) < 4 || len(all.Tables) < 4 || len(all.Strs) < 4 || len(all.Types[0].Fields) < 4 || len(all.Tables[0]) < 4 {
		t.Errorf("there is little room: %v", all)
	}
	sample.Spare(q.Funcs[0].Code)[1].A = 1
	if reflect.DeepEqual(sample.ProgOpened(q), all) {
		t.Error("a change of spare room is not seen")
	}
}

func TestHierInRoom(t *testing.T) {
	h := api.Hier{
		Funcs:   4,
		Classes: []api.Class{{Methods: []string{"x"}, Funcs: []int{3}}},
		Ifaces:  [][]string{{"x"}}, Sites: []api.Site{{From: 1, Method: "x"}},
	}
	g := sample.HierInRoom(h)
	if !reflect.DeepEqual(h, g) {
		t.Errorf("%v; want %v", g, h)
	}
	all := sample.HierOpened(g)
	if len(all.Classes) < 4 || len(all.Ifaces) < 4 || len(all.Sites) < 4 || len(all.Classes[0].Methods) < 4 || len(all.Classes[0].Funcs) < 4 || len(all.Ifaces[0]) < 4 {
		t.Errorf("there is little room: %v", all)
	}
	for _, do := range []func(){
		func() { sample.Spare(g.Sites)[1].To = 9 },
		func() { sample.Spare(g.Classes[0].Methods)[1] = "y" },
		func() { sample.Spare(g.Classes[0].Funcs)[1] = 9 },
		func() { sample.Spare(g.Ifaces[0])[1] = "y" },
	} {
		old := sample.HierOpened(g)
		do()
		if reflect.DeepEqual(sample.HierOpened(g), old) {
			t.Error("a change of spare room is not seen")
		}
	}
}

func TestApart(t *testing.T) {
	list := []int{1, 2, 3, 4}
	for _, lists := range [][][]int{nil, {nil}, {nil, nil}, {list}, {list, nil, {}, {1, 2, 3, 4}}, {list[:2:2], list[2:]}, {list[:0:0], list}} {
		if !sample.Apart(lists) {
			t.Errorf("not apart: %v", lists)
		}
	}
	for _, lists := range [][][]int{{list, list}, {list[:2], list[2:]}, {list[3:], nil, list[:0]}, {list[:3], {5}, list[:2:2]}} {
		if sample.Apart(lists) {
			t.Errorf("apart: %v", lists)
		}
	}
}
