package walk_test

import (
	"strconv"
	"strings"
	"testing"

	"halyard/api"
	"halyard/cases"
	"halyard/parse"
	"halyard/walk"
)

// P6.1, by the sentences of the chapter.

func parsed(t testing.TB, src string) api.Node {
	t.Helper()
	n, at, e := parse.Parse(src)
	if e != api.OK {
		t.Fatalf("Parse: %d at %d of %q", e, at, src)
	}
	return n
}

// endOf: how a run ended, as it is written in cases.
func endOf(r api.Report) string {
	if r.Allocs != 0 {
		return told(r)
	}
	return cases.End(r)
}

func eachCase(t *testing.T, list []cases.Case) {
	t.Helper()
	for _, c := range list {
		if r := walk.Run(parsed(t, c.Program()), 100000); !c.Wants(r) || r.Allocs != 0 {
			t.Errorf("%s: %s; want %q, %q", c.Src, told(r), c.Out, c.End)
		}
	}
}

func TestNumbers(t *testing.T) { eachCase(t, cases.Numbers()) }

func TestTexts(t *testing.T) { eachCase(t, cases.Texts()) }

func TestBoxes(t *testing.T) { eachCase(t, cases.Boxes()) }

func TestStructsAreCopied(t *testing.T) { eachCase(t, cases.StructsAreCopied()) }

// Ahead of a selection, a method's call and & nothing is copied.
func TestStructsAreNotCopied(t *testing.T) { eachCase(t, cases.StructsAreNotCopied()) }

func TestSlices(t *testing.T) { eachCase(t, cases.Slices()) }

func TestAppend(t *testing.T) { eachCase(t, cases.Append()) }

// roomAt: what append leaves room for, told by whether two appends get one box.
const roomAt = "func isFull(s []int) bool { t := append(s, 1); u := append(s, 2); return t[len(s)] == 1; } "

func TestRooms(t *testing.T) {
	src := roomAt + "func main() { var s []int; for len(s) < 1023 { if isFull(s) { print(len(s)); } s = append(s, 0); } }"
	if r := walk.Run(parsed(t, src), api.MaxFuel); string(r.Out) != "0\n4\n8\n16\n32\n64\n128\n256\n512\n" {
		t.Errorf("%s", told(r))
	}
	for length, want := range map[int]int{0: 4, 1: 4, 2: 4, 3: 4, 4: 8, 5: 10, 6: 12, 300: 600, 511: 1022, 512: 1024, 513: 1024, 600: 1024, 1000: 1024, 1022: 1024, 1023: 1024} {
		values := strings.TrimSuffix(strings.Repeat("0, ", length), ", ")
		src := roomAt + "func main() { s := []int{" + values + "}; print(isFull(s)); s = append(s, 0); for len(s) < 1024 { if isFull(s) { print(len(s)); return; } s = append(s, 0); } print(len(s)); s = append(s, 0); }"
		r := walk.Run(parsed(t, src), api.MaxFuel)
		end := api.Exit
		if want == api.MaxLen {
			end = api.Trapped
		}
		if string(r.Out) != "true\n"+strconv.Itoa(want)+"\n" || r.End != end {
			t.Errorf("%d: %s", length, told(r))
		}
	}
}

func TestInterfaces(t *testing.T) { eachCase(t, cases.Interfaces()) }

func TestFunctions(t *testing.T) { eachCase(t, cases.Functions()) }

// A variable may be named panic: a block that ends by that name is gone through, and the results are zero.
func TestRunsOffTheEnd(t *testing.T) { eachCase(t, cases.RunsOffTheEnd()) }

func TestZero(t *testing.T) { eachCase(t, cases.Zero()) }
