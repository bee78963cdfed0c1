package closure_test

import (
	"cmp"
	"reflect"
	"runtime"
	"slices"
	"sync"
	"testing"
	"unsafe"

	"halyard/api"
	"halyard/closure"
	"halyard/sample"
)

// room is the memory of a list, from its beginning to the end of its spare room.
type room struct{ from, to uintptr }

func roomOf[T any](list []T) room {
	var one T
	from := uintptr(unsafe.Pointer(unsafe.SliceData(list)))
	return room{from, from + uintptr(cap(list))*unsafe.Sizeof(one)}
}

func termRooms(t api.Term) []room {
	list := []room{roomOf(t.Kids)}
	for _, k := range t.Kids {
		list = append(list, termRooms(k)...)
	}
	return list
}

func closedRooms(x api.Closed) []room {
	list := []room{roomOf(x.Kids)}
	for _, k := range x.Kids {
		list = append(list, closedRooms(k)...)
	}
	return list
}

func listRooms(bodies []api.Body) []room {
	list := []room{roomOf(bodies)}
	for _, b := range bodies {
		list = append(list, closedRooms(b.Expr)...)
	}
	return list
}

// apart: do no two of them share memory?
func apart(lists ...[]room) bool {
	all := slices.DeleteFunc(slices.Concat(lists...), func(r room) bool { return r.from == r.to })
	slices.SortFunc(all, func(a, b room) int { return cmp.Compare(a.from, b.from) })
	for i := 1; i < len(all); i++ {
		if all[i].from < all[i-1].to {
			return false
		}
	}
	return true
}

// termInRoom: a term, all its lists in room, where there stand names that would be found.
func termInRoom(t api.Term) api.Term {
	t.Kids = sample.InRoom(v("junk"), t.Kids)
	for i := range t.Kids {
		t.Kids[i] = termInRoom(t.Kids[i])
	}
	return t
}

// termOpened: a term with all its spare room in sight, in memory of its own.
func termOpened(t api.Term) api.Term {
	count := len(t.Kids)
	t.Kids = slices.Clone(sample.Spare(t.Kids))
	for i := range count {
		t.Kids[i] = termOpened(t.Kids[i])
	}
	return t
}

func closedInRoom(x api.Closed) api.Closed {
	x.Kids = sample.InRoom(cnum(77), x.Kids)
	for i := range x.Kids {
		x.Kids[i] = closedInRoom(x.Kids[i])
	}
	return x
}

func closedOpened(x api.Closed) api.Closed {
	count := len(x.Kids)
	x.Kids = slices.Clone(sample.Spare(x.Kids))
	for i := range count {
		x.Kids[i] = closedOpened(x.Kids[i])
	}
	return x
}

func listInRoom(list []api.Body) []api.Body {
	list = sample.InRoom(body(0, cnum(5)), list)
	for i := range list {
		list[i].Expr = closedInRoom(list[i].Expr)
	}
	return list
}

func listOpened(list []api.Body) []api.Body {
	count := len(list)
	list = slices.Clone(sample.Spare(list))
	for i := range count {
		list[i].Expr = closedOpened(list[i].Expr)
	}
	return list
}

// someTerms: with names free and bound, and such as are no terms.
func someTerms() []api.Term {
	list := []api.Term{
		app(app(plus(), num(1)), num(2)), loop(3), forever(), broad(), let("a", num(1), lam("b", add(v("a"), v("b")))), let("", v("c"), lam("x1", app(v("b"), v("x1")))),
		app(v("b"), app(v("a"), v("b"))), add(v("b"), lam("a", v("a"))), v("b"), num(1), {}, app(num(1), api.Term{}), {Op: api.MApp, Kids: []api.Term{num(1)}}, {Op: api.MVar, Name: "b", Num: 1},
	}
	for _, k := range kinds() {
		list = append(list, inEach(k)...)
	}
	return list
}

// answers: what all calls say of a term and a second one.
type answers struct {
	sound    bool
	free     []string
	renamed  api.Term
	replaced api.Term
	list     []api.Body
	n, steps int
	errors   [5]api.Errno
}

func answersOf(x, by api.Term) (a answers) {
	a.sound = closure.Sound(x)
	a.free, a.errors[0] = closure.Free(x)
	a.renamed, a.errors[1] = closure.Rename(x)
	a.replaced, a.errors[2] = closure.Subst(x, "b", by)
	a.list, a.errors[3] = closure.Convert(x)
	a.n, a.steps, a.errors[4] = closure.Eval(x, 50)
	return a
}

func (a answers) rooms() []room {
	return slices.Concat([]room{roomOf(a.free)}, termRooms(a.renamed), termRooms(a.replaced), listRooms(a.list))
}

func (a answers) same(b answers) bool {
	return a.sound == b.sound && slices.Equal(a.free, b.free) && show(a.renamed) == show(b.renamed) && show(a.replaced) == show(b.replaced) &&
		showList(a.list) == showList(b.list) && a.n == b.n && a.steps == b.steps && a.errors == b.errors
}

// R4: nothing that is given is changed, spare room included, be it right or wrong; nor does spare room matter; all that is answered is new.
func TestTermsStayAsTheyAre(t *testing.T) {
	for _, x := range someTerms() {
		for _, by := range []api.Term{num(1), app(v("b"), lam("a", add(v("a"), v("x1")))), {}} {
			want := answersOf(x, by)
			roomy, roomyBy := termInRoom(x), termInRoom(by)
			old, oldBy := termOpened(roomy), termOpened(roomyBy)
			got := answersOf(roomy, roomyBy)
			again := answersOf(roomy, roomyBy)
			if !got.same(want) || !again.same(want) {
				t.Errorf("with spare room it is another answer: %s, %s", brief(show(x)), show(by))
			}
			if !reflect.DeepEqual(termOpened(roomy), old) || !reflect.DeepEqual(termOpened(roomyBy), oldBy) {
				t.Errorf("changed: %s, %s", brief(show(x)), show(by))
			}
			if !apart(termRooms(roomy), termRooms(roomyBy), got.rooms(), again.rooms()) {
				t.Errorf("shared memory: %s, %s", brief(show(x)), show(by))
			}
			runtime.KeepAlive([]any{roomy, roomyBy, got, again})
		}
	}
}

// What is handed in may be one piece of memory in several places: what is answered is not.
func TestSharedKids(t *testing.T) {
	one := lam("a", add(v("a"), v("b")))
	x := add(add(one, one), app(one, one))
	a := answersOf(x, one)
	if !apart(a.rooms(), []room{roomOf(x.Kids), roomOf(x.Kids[0].Kids), roomOf(one.Kids)}) {
		t.Error("shared memory")
	}
	part := func(n string) api.Term { return lam(n, add(v(n), v("b"))) }
	wantRename(t, x, add(add(part("x1"), part("x2")), app(part("x3"), part("x4"))))
	wantSubst(t, add(v("b"), v("b")), "b", one, add(part("x1"), part("x2")))
	closed := lam("a", v("a"))
	list, _ := closure.Convert(app(closed, app(closed, lam("b", app(closed, closed)))))
	if !apart(listRooms(list)) {
		t.Error("shared memory in closed functions")
	}
	runtime.KeepAlive([]any{a, x, one, list})
}

// An answer that is changed changes no other one, nor what was handed in.
func TestChangedAnswers(t *testing.T) {
	x := app(let("a", num(1), lam("c", add(v("a"), v("b")))), v("b"))
	old := show(x)
	for range 3 {
		names, _ := closure.Free(x)
		renamed, _ := closure.Rename(x)
		replaced, _ := closure.Subst(x, "b", x)
		list, _ := closure.Convert(lam("b", x))
		texts := show(renamed) + show(replaced) + showList(list)
		names[0] = "z"
		spoilTerm(&renamed)
		spoilTerm(&replaced)
		clear(sample.Spare(list))
		again, _ := closure.Rename(x)
		replacedAgain, _ := closure.Subst(x, "b", x)
		listAgain, _ := closure.Convert(lam("b", x))
		wantFree(t, x, "b")
		if show(x) != old || show(again)+show(replacedAgain)+showList(listAgain) != texts {
			t.Error("an answer hangs on another one")
		}
	}
}

func spoilTerm(t *api.Term) {
	for i := range sample.Spare(t.Kids) {
		if i < len(t.Kids) {
			spoilTerm(&t.Kids[i])
		}
		sample.Spare(t.Kids)[i] = v("spoilt")
	}
}

// R4 for Run, whose lists are right and wrong.
func TestListsStayAsTheyAre(t *testing.T) {
	lists := [][]api.Body{nil, {}, bodies(param()), bodies(cmake(0)), three(1, cmake(2, param(), env(0))), three(2, cmake(2, param())), three(0, cif(cnum(1), clet(cnum(2), local(0)), local(1)))}
	for _, x := range someTerms() {
		if list, e := closure.Convert(x); e == api.OK {
			lists = append(lists, list)
		}
	}
	for _, list := range lists {
		n, steps, e := closure.Run(list, 50)
		roomy := listInRoom(list)
		old := listOpened(roomy)
		for range 2 {
			if m, s, f := closure.Run(roomy, 50); m != n || s != steps || f != e {
				t.Errorf("Run of %s: %d in %d, %d, with spare room %d in %d, %d", brief(showList(list)), n, steps, e, m, s, f)
			}
		}
		if !reflect.DeepEqual(listOpened(roomy), old) {
			t.Errorf("changed: %s", brief(showList(list)))
		}
	}
	// one expression in several places
	x := clet(cnum(1), cadd(local(0), cnum(2)))
	wantRun(t, bodies(cadd(cadd(x, x), capp(cmake(1), x)), body(0, cadd(x, param()))), 1, 12, 1)
}

// R5: nothing is kept; and calls at the same time do not meet, though they have the same term.
func TestNothingIsKept(t *testing.T) {
	terms := someTerms()
	var want []answers
	for _, x := range terms {
		want = append(want, answersOf(x, terms[5]))
	}
	var group sync.WaitGroup
	for from := range 8 {
		group.Go(func() {
			for i := range terms {
				at := (i*7 + from) % len(terms)
				if !answersOf(terms[at], terms[5]).same(want[at]) {
					t.Errorf("another answer of %s", brief(show(terms[at])))
				}
			}
		})
	}
	group.Wait()
}
