package scan_test

import (
	"regexp"
	"slices"
	"strconv"
	"strings"
	"testing"

	"halyard/api"
	"halyard/scan"
)

// The chapter's forms, written as expressions: a second way to the same tokens, against which Scan and Name are held.
var (
	blanksForm = regexp.MustCompile(`^(?:[\t\n\r ]|//[^\n]*)*`)
	nameForm   = regexp.MustCompile(`^[A-Za-z_][A-Za-z_0-9]*`)
	wordForm   = regexp.MustCompile(`^(?:type|struct|interface|func|var|if|else|for|return|break|continue|true|false|nil)$`)
	digitsForm = regexp.MustCompile(`^[0-9]+`)
	stringForm = regexp.MustCompile(`^"(?:[^"\\\n]|\\[nt"\\]|\\x[0-9a-fA-F]{2})*"`)
	markForm   = regexp.MustCompile(`^(?:[:=!<>]=|&&|\|\||[(){}\[\],;.:=<>+\-*/%&!])`)
)

func referenceScan(src string) ([]api.Token, int, api.Errno) {
	if len(src) > api.MaxText {
		return nil, 0, api.ErrLong
	}
	var list []api.Token
	for at := 0; ; {
		at += len(blanksForm.FindString(src[at:]))
		if at == len(src) {
			return list, 0, api.OK
		}
		if len(list) >= api.MaxTokens {
			return nil, at, api.ErrLarge
		}
		token, size := referenceToken(src[at:])
		if size == 0 {
			return nil, at, api.ErrText
		}
		token.At = at
		list = append(list, token)
		at += size
	}
}

func referenceToken(s string) (api.Token, int) {
	if m := nameForm.FindString(s); m != "" {
		if len(m) > api.MaxName {
			return api.Token{}, 0
		}
		if wordForm.MatchString(m) {
			return api.Token{Kind: api.TWord, Text: m}, len(m)
		}
		return api.Token{Kind: api.TName, Text: m}, len(m)
	}
	if m := digitsForm.FindString(s); m != "" {
		n, err := strconv.Atoi(m)
		if err != nil || strconv.Itoa(n) != m || nameForm.MatchString(s[len(m):]) {
			return api.Token{}, 0
		}
		return api.Token{Kind: api.TInt, Num: n}, len(m)
	}
	if m := stringForm.FindString(s); m != "" {
		meant := referenceMeant(m[1 : len(m)-1])
		if len(meant) > api.MaxLen {
			return api.Token{}, 0
		}
		return api.Token{Kind: api.TStr, Text: meant}, len(m)
	}
	m := markForm.FindString(s)
	return api.Token{Kind: api.TMark, Text: m}, len(m)
}

func referenceMeant(s string) string {
	var out []byte
	for len(s) > 0 {
		if s[0] != '\\' {
			out, s = append(out, s[0]), s[1:]
			continue
		}
		if s[1] == 'x' {
			n, _ := strconv.ParseUint(s[2:4], 16, 8)
			out, s = append(out, byte(n)), s[4:]
			continue
		}
		out, s = append(out, strings.NewReplacer("n", "\n", "t", "\t").Replace(s[1:2])...), s[2:]
	}
	return string(out)
}

func compare(t *testing.T, src string) {
	t.Helper()
	list, at, e := scan.Scan(src)
	wantList, wantAt, want := referenceScan(src)
	if !slices.Equal(list, wantList) || at != wantAt || e != want {
		t.Fatalf("Scan(%s) = %v, %d, %d; want %v, %d, %d", short(src), list, at, e, wantList, wantAt, want)
	}
	isName := want == api.OK && len(wantList) == 1 && wantList[0].Kind == api.TName && wantList[0].Text == src
	if scan.Name(src) != isName {
		t.Fatalf("Name(%s) = %t", short(src), !isName)
	}
}

// every: all texts of at most most of the pieces, one behind the other.
func every(t *testing.T, so string, pieces []string, most int) {
	compare(t, so)
	if most == 0 {
		return
	}
	for _, p := range pieces {
		every(t, so+p, pieces, most-1)
	}
}

func TestScanShortTexts(t *testing.T) {
	every(t, "", strings.Split("\"\\nx0f1_G/\n :=&|<!.#\x80", ""), 4)
	var bytes []string
	for b := range 256 {
		bytes = append(bytes, string([]byte{byte(b)}))
	}
	every(t, "", bytes, 2)
}

func TestScanPieces(t *testing.T) {
	pieces := []string{
		"for", "nil", "a", "_", "0", "12", "9223372036854775807", "9223372036854775808", "\"", "\\", "\\x", "4f", "//", "\n", " ", ":", "=", "|",
		strings.Repeat("n", api.MaxName), "\"" + strings.Repeat("s", api.MaxLen-1), "\"" + strings.Repeat(`\x0A`, api.MaxLen) + "\"",
	}
	every(t, "", pieces, 3)
}

func FuzzScan(f *testing.F) {
	for _, s := range []string{"", "a1:=12;//x", "\"\\x41\\n\"", "func main(){print(1);}", "<== &&& ||", "\"a", "01", "9223372036854775808"} {
		f.Add(s)
	}
	f.Fuzz(func(t *testing.T, s string) {
		compare(t, s)
		if len(s) <= api.MaxLen {
			tokens(t, scan.Quote(s), str(s, 0))
		}
	})
}
