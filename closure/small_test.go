package closure_test

import (
	"testing"

	"halyard/api"
)

// allTerms: all of so many nodes, with two names and two numbers; by sizes.
func allTerms(most int) [][]api.Term {
	names := []string{"a", "x1"}
	all := make([][]api.Term, most+1)
	for _, name := range names {
		all[1] = append(all[1], v(name))
	}
	all[1] = append(all[1], num(0), num(1))
	for size := 2; size <= most; size++ {
		var list []api.Term
		for _, body := range all[size-1] {
			for _, name := range names {
				list = append(list, lam(name, body))
			}
		}
		for first := 1; first < size-1; first++ {
			for _, a := range all[first] {
				for _, b := range all[size-1-first] {
					list = append(list, app(a, b), add(a, b), let(names[0], a, b), let(names[1], a, b))
				}
			}
		}
		all[size] = append(list, allIfs(all, size-1)...)
	}
	return all
}

// allIfs: all whose Kids have so many nodes together.
func allIfs(all [][]api.Term, nodes int) []api.Term {
	var list []api.Term
	for first := 1; first < nodes-1; first++ {
		for second := 1; first+second < nodes; second++ {
			for _, a := range all[first] {
				for _, b := range all[second] {
					for _, c := range all[nodes-first-second] {
						list = append(list, cond(a, b, c))
					}
				}
			}
		}
	}
	return list
}

// All terms of up to six nodes.
func TestAllSmallTerms(t *testing.T) {
	seen := map[api.Errno]int{}
	for _, list := range allTerms(6) {
		for _, x := range list {
			seen[holdTerm(t, x, 0, 1, 20)]++
			if t.Failed() {
				return
			}
		}
	}
	enough(t, seen, 1000, api.OK, api.ErrNone, api.ErrKind)
}

// All ways to put a term of one or two nodes into one of up to four, or one of three into one of three.
func TestAllSmallSubsts(t *testing.T) {
	all := allTerms(4)
	for size := 1; size <= 4; size++ {
		for _, x := range all[size] {
			for more := 1; more <= 3 && size+more <= 6; more++ {
				for _, by := range all[more] {
					holdSubst(t, x, "a", by)
					holdSubst(t, x, "x1", by)
				}
			}
			if t.Failed() {
				return
			}
		}
	}
}

// allClosed: all expressions of so many nodes, right and wrong, with up to two Kids each; by sizes.
func allClosed(most int) [][]api.Closed {
	all := make([][]api.Closed, most+1)
	for size := 1; size <= most; size++ {
		for op := 0; op <= 10; op++ {
			for n := -1; n <= 2; n++ {
				for _, kids := range allKids(all, size-1) {
					all[size] = append(all[size], api.Closed{Op: op, Num: n, Kids: kids})
				}
			}
		}
	}
	return all
}

// allKids: all lists of up to two that have so many nodes together.
func allKids(all [][]api.Closed, nodes int) [][]api.Closed {
	if nodes == 0 {
		return [][]api.Closed{nil}
	}
	var lists [][]api.Closed
	for _, one := range all[nodes] {
		lists = append(lists, []api.Closed{one})
	}
	for first := 1; first < nodes; first++ {
		for _, a := range all[first] {
			for _, b := range all[nodes-first] {
				lists = append(lists, []api.Closed{a, b})
			}
		}
	}
	return lists
}

// All expressions of up to three nodes, as the whole and as a function that brings along one value.
func TestAllSmallLists(t *testing.T) {
	seen := map[api.Errno]int{}
	for _, list := range allClosed(3) {
		for _, x := range list {
			seen[holdList(t, bodies(x, body(1, param())), 10)]++
			seen[holdList(t, bodies(capp(cmake(1, cnum(5)), cmake(1, cnum(6))), body(1, x)), 10)]++
			if t.Failed() {
				return
			}
		}
	}
	enough(t, seen, 10, api.OK, api.ErrForm, api.ErrKind, api.ErrFull)
}

// Two functions, of which each may be made in either.
func TestAllSmallPairs(t *testing.T) {
	var parts []api.Closed
	leaves := []api.Closed{param(), env(0), cnum(0), cnum(1), cmake(0), cmake(1, cnum(2)), cmake(1, cmake(0))}
	for _, a := range leaves {
		for _, b := range append(leaves, local(0)) {
			parts = append(parts, capp(a, b), clet(a, b), cadd(a, b), cif(a, b, cnum(3)), cmake(1, capp(a, b)))
		}
	}
	seen := map[api.Errno]int{}
	for _, whole := range parts {
		for _, inside := range parts {
			seen[holdList(t, bodies(whole, body(1, inside)), 6)]++
			seen[holdList(t, bodies(capp(cmake(1, whole), cnum(4)), body(1, inside)), 6)]++
		}
		if t.Failed() {
			return
		}
	}
	enough(t, seen, 50, api.OK, api.ErrForm, api.ErrKind, api.ErrFull)
}
