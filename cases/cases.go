// Package cases has programs for tests, with what they print and how they end: each way to carry them out must do so.
package cases

import (
	"slices"
	"strconv"
	"strings"

	"halyard/api"
)

// Case: what stands in main, the lines that it prints with blanks between, and its end.
type Case struct{ Src, Out, End string }

// Head declares what stands around main. Those that print tell when they are looked at.
const Head = `
type S struct { a int; b *S; }
type T struct { n int; f func(int) int; l []S; i I; c string; z bool; }
type E struct { }
type O struct { n int; }
type I interface { m(n int) int; }
type U interface { }
func (s *S) m(n int) int { if s == nil { return n; } s.a = s.a + n; return s.a; }
func (t *T) m(n int) int { return t.n * n; }
func (s *S) get() int { return s.a; }
func say(n int) int { print(n); return n; }
func yes(n int) bool { print(n); return true; }
func no(n int) bool { print(n); return false; }
func ptr(p *S, n int) *S { print(n); return p; }
func list(l []int, n int) []int { print(n); return l; }
func face(i I, n int) I { print(n); return i; }
func fun(f func(int) int, n int) func(int) int { print(n); return f; }
func text(s string, n int) string { print(n); return s; }
func two(a int, b int) (int, int) { return a, b; }
func add(a int, b int) int { return a + b; }
func inc(n int) int { return n + 1; }
func two2() (I, *S) { return nil, nil; }
`

// Program: the whole text.
func (c Case) Program() string { return Head + "func main() { " + c.Src + " }" }

// Wants: does a run do what the case tells? (Rejected is told as "rejected".)
func (c Case) Wants(r api.Report) bool {
	out := strings.Join(strings.Split(strings.TrimSuffix(string(r.Out), "\n"), "\n"), " ")
	return out == c.Out && End(r) == c.End
}

// End of a run as it is written in cases; nothing for Exit. What Trap and Value must not have is told.
func End(r api.Report) string {
	switch {
	case r.End == api.Trapped && r.Trap == api.TrapPanic:
		return "panic " + strconv.Itoa(r.Value)
	case r.Value != 0 || (r.Trap != 0) != (r.End == api.Trapped):
		return "trap " + strconv.Itoa(r.Trap) + " of " + strconv.Itoa(r.Value)
	case r.End == api.Trapped:
		return []string{"", "zero", "range", "nil", "", "large", "kind"}[r.Trap]
	}
	return []string{"running", "", "", "fuel", "full", "memory", "stack", "rejected"}[r.End]
}

// All cases.
func All() []Case {
	return slices.Concat(Numbers(), Truths(), Texts(), Boxes(), StructsAreCopied(), StructsAreNotCopied(), Zero(), Slices(), Append(), LongTexts(), LongLists(), Interfaces(), Functions(), RunsOffTheEnd(), Order(), CallsOfNil(), NilPointers(), Assign(), Statements(), Same())
}
