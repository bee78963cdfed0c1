package closure_test

import (
	"slices"
	"strconv"
	"strings"
	"testing"

	"halyard/api"
	"halyard/closure"
)

func v(name string) api.Term { return api.Term{Op: api.MVar, Name: name} }

func num(n int) api.Term { return api.Term{Op: api.MNum, Num: n} }

func lam(name string, body api.Term) api.Term {
	return api.Term{Op: api.MLam, Name: name, Kids: []api.Term{body}}
}

func app(a, b api.Term) api.Term { return api.Term{Op: api.MApp, Kids: []api.Term{a, b}} }

func add(a, b api.Term) api.Term { return api.Term{Op: api.MAdd, Kids: []api.Term{a, b}} }

func let(name string, a, b api.Term) api.Term {
	return api.Term{Op: api.MLet, Name: name, Kids: []api.Term{a, b}}
}

func cond(a, b, c api.Term) api.Term { return api.Term{Op: api.MIf, Kids: []api.Term{a, b, c}} }

func param() api.Closed { return api.Closed{Op: api.CParam} }

func env(place int) api.Closed { return api.Closed{Op: api.CEnv, Num: place} }

func local(n int) api.Closed { return api.Closed{Op: api.CLocal, Num: n} }

func cnum(n int) api.Closed { return api.Closed{Op: api.CNum, Num: n} }

func cmake(f int, kids ...api.Closed) api.Closed {
	return api.Closed{Op: api.CMake, Num: f, Kids: kids}
}

func capp(a, b api.Closed) api.Closed { return api.Closed{Op: api.CApp, Kids: []api.Closed{a, b}} }

func cadd(a, b api.Closed) api.Closed { return api.Closed{Op: api.CAdd, Kids: []api.Closed{a, b}} }

func clet(a, b api.Closed) api.Closed { return api.Closed{Op: api.CLet, Kids: []api.Closed{a, b}} }

func cif(a, b, c api.Closed) api.Closed {
	return api.Closed{Op: api.CIf, Kids: []api.Closed{a, b, c}}
}

// bodies: closed functions that bring along as much as told ahead of each.
func bodies(whole api.Closed, others ...api.Body) []api.Body {
	return append([]api.Body{{Expr: whole}}, others...)
}

func body(env int, expr api.Closed) api.Body { return api.Body{Env: env, Expr: expr} }

// id, self and forever: \x. x, \x. x x, and what never ends.
func id() api.Term { return lam("x", v("x")) }

func self() api.Term { return lam("x", app(v("x"), v("x"))) }

func forever() api.Term { return app(self(), self()) }

// plus: \x. \y. x + y.
func plus() api.Term { return lam("x", lam("y", add(v("x"), v("y")))) }

// show: a term as a text that tells all of it.
func show(t api.Term) string {
	var kids []string
	for _, k := range t.Kids {
		kids = append(kids, show(k))
	}
	return strconv.Itoa(t.Op) + strconv.Quote(t.Name) + strconv.Itoa(t.Num) + "(" + strings.Join(kids, " ") + ")"
}

func showClosed(x api.Closed) string {
	var kids []string
	for _, k := range x.Kids {
		kids = append(kids, showClosed(k))
	}
	return strconv.Itoa(x.Op) + "," + strconv.Itoa(x.Num) + "(" + strings.Join(kids, " ") + ")"
}

func showList(list []api.Body) string {
	var all []string
	for _, b := range list {
		all = append(all, strconv.Itoa(b.Env)+": "+showClosed(b.Expr))
	}
	return strings.Join(all, "; ")
}

// brief: what is told of a term in a fault, which may be very large.
func brief(text string) string { return text[:min(len(text), 300)] }

func wantFree(t *testing.T, x api.Term, want ...string) {
	t.Helper()
	if got, e := closure.Free(x); e != api.OK || !slices.Equal(got, want) {
		t.Errorf("Free of %s: %q, %d, want %q", brief(show(x)), got, e, want)
	}
}

func wantRename(t *testing.T, x, want api.Term) {
	t.Helper()
	if got, e := closure.Rename(x); e != api.OK || show(got) != show(want) {
		t.Errorf("Rename of %s: %s, %d, want %s", brief(show(x)), brief(show(got)), e, brief(show(want)))
	}
}

func wantSubst(t *testing.T, x api.Term, name string, by, want api.Term) {
	t.Helper()
	if got, e := closure.Subst(x, name, by); e != api.OK || show(got) != show(want) {
		t.Errorf("Subst of %s, %q, %s: %s, %d, want %s", brief(show(x)), name, brief(show(by)), brief(show(got)), e, brief(show(want)))
	}
}

func wantSubstError(t *testing.T, x api.Term, name string, by api.Term, want api.Errno) {
	t.Helper()
	if got, e := closure.Subst(x, name, by); e != want || show(got) != show(api.Term{}) {
		t.Errorf("Subst of %s, %q, %s: %s, %d, want the error %d", brief(show(x)), name, brief(show(by)), brief(show(got)), e, want)
	}
}

func wantConvert(t *testing.T, x api.Term, want []api.Body) {
	t.Helper()
	if got, e := closure.Convert(x); e != api.OK || showList(got) != showList(want) {
		t.Errorf("Convert of %s: %s, %d, want %s", brief(show(x)), brief(showList(got)), e, brief(showList(want)))
	}
}

// wantEval is of Eval, and of Run of what Convert makes of the term.
func wantEval(t *testing.T, x api.Term, fuel, n, steps int) {
	t.Helper()
	if m, s, e := closure.Eval(x, fuel); e != api.OK || m != n || s != steps {
		t.Errorf("Eval of %s, %d: %d in %d, %d, want %d in %d", brief(show(x)), fuel, m, s, e, n, steps)
	}
	list, e := closure.Convert(x)
	if e != api.OK {
		t.Errorf("Convert of %s: %d", brief(show(x)), e)
	}
	wantRun(t, list, fuel, n, steps)
}

// wantEvalError: an error that is met on the way, or that of fuel.
func wantEvalError(t *testing.T, x api.Term, fuel int, want api.Errno) {
	t.Helper()
	if n, s, e := closure.Eval(x, fuel); e != want || n != 0 || s != 0 {
		t.Errorf("Eval of %s, %d: %d in %d, %d, want the error %d", brief(show(x)), fuel, n, s, e, want)
	}
	list, e := closure.Convert(x)
	if e != api.OK {
		t.Errorf("Convert of %s: %d", brief(show(x)), e)
	}
	wantRunError(t, list, fuel, want)
}

func wantRun(t *testing.T, list []api.Body, fuel, n, steps int) {
	t.Helper()
	if m, s, e := closure.Run(list, fuel); e != api.OK || m != n || s != steps {
		t.Errorf("Run of %s, %d: %d in %d, %d, want %d in %d", brief(showList(list)), fuel, m, s, e, n, steps)
	}
}

func wantRunError(t *testing.T, list []api.Body, fuel int, want api.Errno) {
	t.Helper()
	if n, s, e := closure.Run(list, fuel); e != want || n != 0 || s != 0 {
		t.Errorf("Run of %s, %d: %d in %d, %d, want the error %d", brief(showList(list)), fuel, n, s, e, want)
	}
}

// wantNoTerm: all calls say ErrForm of what is no term, whatever else is wrong.
func wantNoTerm(t *testing.T, x api.Term) {
	t.Helper()
	if closure.Sound(x) {
		t.Error("it is sound")
	}
	if names, e := closure.Free(x); e != api.ErrForm || len(names) > 0 {
		t.Errorf("Free: %v, %d", names, e)
	}
	if got, e := closure.Rename(x); e != api.ErrForm || show(got) != show(api.Term{}) {
		t.Errorf("Rename: %s, %d", brief(show(got)), e)
	}
	for _, other := range []api.Term{num(1), v("x"), x, app(v("x"), v("x"))} {
		wantSubstError(t, x, "x", other, api.ErrForm)
		wantSubstError(t, other, "x", x, api.ErrForm)
		wantSubstError(t, other, "y", x, api.ErrForm)
	}
	if list, e := closure.Convert(x); e != api.ErrForm || len(list) > 0 {
		t.Errorf("Convert: %s, %d", brief(showList(list)), e)
	}
	for _, fuel := range []int{-1, 0, 10} {
		if n, s, e := closure.Eval(x, fuel); e != api.ErrForm || n != 0 || s != 0 {
			t.Errorf("Eval: %d in %d, %d", n, s, e)
		}
	}
}

// The chapter's example.
func TestExample(t *testing.T) {
	x := app(app(plus(), num(1)), num(2))
	wantConvert(t, x, bodies(capp(capp(cmake(1), cnum(1)), cnum(2)), body(0, cmake(2, param())), body(1, cadd(env(0), param()))))
	wantEval(t, x, 100, 3, 2)
	wantSubst(t, lam("y", v("x")), "x", v("y"), lam("x1", v("y")))
}
