package scan_test

import (
	"slices"
	"strconv"
	"strings"
	"testing"

	"halyard/api"
	"halyard/scan"
)

func name(text string, at int) api.Token { return api.Token{Kind: api.TName, Text: text, At: at} }
func word(text string, at int) api.Token { return api.Token{Kind: api.TWord, Text: text, At: at} }
func mark(text string, at int) api.Token { return api.Token{Kind: api.TMark, Text: text, At: at} }
func str(text string, at int) api.Token  { return api.Token{Kind: api.TStr, Text: text, At: at} }
func num(n, at int) api.Token            { return api.Token{Kind: api.TInt, Num: n, At: at} }

// tokens: Scan answers just these tokens.
func tokens(t *testing.T, src string, want ...api.Token) {
	t.Helper()
	list, at, e := scan.Scan(src)
	if e != api.OK || at != 0 || !slices.Equal(list, want) {
		t.Errorf("Scan(%s) = %v, %d, %d; want %v, 0, 0", short(src), list, at, e, want)
	}
}

// fault: Scan answers just this error and place.
func fault(t *testing.T, src string, place int, want api.Errno) {
	t.Helper()
	list, at, e := scan.Scan(src)
	if len(list) != 0 || at != place || e != want {
		t.Errorf("Scan(%s) = %d tokens, %d, %d; want none, %d, %d", short(src), len(list), at, e, place, want)
	}
}

func short(src string) string {
	if len(src) > 80 {
		src = src[:80] + ".."
	}
	return strconv.Quote(src)
}

// P1.1: the example, and each form.

func TestScanExample(t *testing.T) {
	tokens(t, "a1:=12;//x", name("a1", 0), mark(":=", 2), num(12, 4), mark(";", 6))
	tokens(t, "<==", mark("<=", 0), mark("=", 2))
	tokens(t, "&&&", mark("&&", 0), mark("&", 2))
	for _, src := range []string{"01", "1a", "9223372036854775808", "\"a", "\"\\q\"", "|", "#"} {
		fault(t, src, 0, api.ErrText)
	}
	fault(t, "a \x01", 2, api.ErrText)
}

func TestScanProgram(t *testing.T) {
	tokens(t, "func main() {\n\tprint(\"a\\n\"); // b\n}\n",
		word("func", 0), name("main", 5), mark("(", 9), mark(")", 10), mark("{", 12),
		name("print", 15), mark("(", 20), str("a\n", 21), mark(")", 26), mark(";", 27), mark("}", 34))
}

func TestScanBlanks(t *testing.T) {
	for _, src := range []string{"", " ", "\t\n\r ", "//", "// a", "//\n", "//\"", "//#\n//\x00\xff\n", "////", " // a // b\n\n"} {
		tokens(t, src)
	}
	tokens(t, "a\tb\nc\rd e", name("a", 0), name("b", 2), name("c", 4), name("d", 6), name("e", 8))
	tokens(t, "a//b\nc", name("a", 0), name("c", 5))
	tokens(t, "a//b\r c\nd", name("a", 0), name("d", 8)) // a byte 13 ends no remark
	tokens(t, "/ /", mark("/", 0), mark("/", 2))
	tokens(t, "\"//\"1", str("//", 0), num(1, 4)) // no remark begins within a string
	for b := range 256 {
		if b >= 33 && b <= 126 || b == 9 || b == 10 || b == 13 || b == 32 {
			continue
		}
		fault(t, "a "+string([]byte{byte(b)}), 2, api.ErrText)
	}
}

func TestScanNames(t *testing.T) {
	for _, s := range []string{"a", "z", "A", "Z", "_", "__", "_0", "a9", "aZ_0", "xyz", "Func", "funcs", "nil_", "trueX", "if1", "var0"} {
		tokens(t, s, name(s, 0))
		tokens(t, " "+s+";", name(s, 1), mark(";", 1+len(s)))
	}
	tokens(t, "a\"b\"c", name("a", 0), str("b", 1), name("c", 4))
	fault(t, "a\xc3\xa9", 1, api.ErrText)
	fault(t, "a$", 1, api.ErrText)
}

func TestScanWords(t *testing.T) {
	for s := range strings.FieldsSeq("type struct interface func var if else for return break continue true false nil") {
		tokens(t, s, word(s, 0))
		tokens(t, "("+s+")", mark("(", 0), word(s, 1), mark(")", 1+len(s)))
		tokens(t, s+"x", name(s+"x", 0))
		tokens(t, s[:1]+" "+s[1:]+"_", name(s[:1], 0), name(s[1:]+"_", 2))
	}
	for s := range strings.FieldsSeq("int bool string len append print panic package import map switch go") {
		tokens(t, s, name(s, 0))
	}
}

func TestScanNameLimit(t *testing.T) {
	most := strings.Repeat("n", api.MaxName)
	tokens(t, most, name(most, 0))
	tokens(t, "a "+most+" b", name("a", 0), name(most, 2), name("b", 67))
	fault(t, most+"n", 0, api.ErrText)
	fault(t, "a "+most+"n b", 2, api.ErrText)
	fault(t, "a "+most+"0 b", 2, api.ErrText)
	fault(t, strings.Repeat("_", api.MaxText), 0, api.ErrText)
}

func TestScanNumbers(t *testing.T) {
	for s, n := range map[string]int{"0": 0, "7": 7, "10": 10, "100": 100, "1234567890": 1234567890, "9223372036854775806": 9223372036854775806, "9223372036854775807": 9223372036854775807} {
		tokens(t, s, num(n, 0))
		tokens(t, "- "+s+";", mark("-", 0), num(n, 2), mark(";", 2+len(s)))
	}
	tokens(t, "0 0", num(0, 0), num(0, 2))
	tokens(t, "1.5", num(1, 0), mark(".", 1), num(5, 2))
	tokens(t, "1\"a\"", num(1, 0), str("a", 1))
	for _, s := range []string{
		"00", "01", "007", "0a", "0x1", "1_", "1_0", "12z", "12Z", "0_", "1e5",
		"9223372036854775808", "9223372036854775810", "9999999999999999999", "10000000000000000000",
		"18446744073709551615", "18446744073709551616", "18446744073709551617", strings.Repeat("9", 1000),
	} {
		fault(t, s, 0, api.ErrText)
		fault(t, "x = "+s+";", 4, api.ErrText)
	}
	fault(t, "1\x01", 1, api.ErrText)
	fault(t, "1\xc3\xa9", 1, api.ErrText)
}

func TestScanStrings(t *testing.T) {
	for src, meant := range map[string]string{
		`""`: "", `"a"`: "a", `"a b"`: "a b", `"\n\t\"\\"`: "\n\t\"\\", `"\x00\x7f\xff\xFF\xaB\xBa"`: "\x00\x7f\xff\xff\xab\xba",
		`"\x4142"`: "A42", `"\\n"`: "\\n", `"//"`: "//", `"'"`: "'", "\"\t\r\x00\xff\"": "\t\r\x00\xff", "\"é\"": "é",
		`"\x0A"`: "\n",
	} {
		tokens(t, src, str(meant, 0))
		tokens(t, "; "+src+",", mark(";", 0), str(meant, 2), mark(",", 2+len(src)))
	}
	tokens(t, `"a""b"`, str("a", 0), str("b", 3))
	for _, src := range []string{
		`"`, `"a`, `"\`, `"\"`, `"\n`, `"\x`, `"\x"`, `"\x4`, `"\x4"`, `"\x41`, `"\xg0"`, `"\x0g"`, `"\xG0"`, `"\x_1"`, `"\x+1"`, `"\x-1"`, `"\x 1"`, `"\x1 "`,
		`"\q"`, `"\r"`, `"\0"`, `"\N"`, `"\X41"`, `"\u0041"`, `"\'"`, "\"\n\"", "\"a\nb\"", "\"\\\n\"", "\"\\x\n1\"", `"ok\q`, `"aaaa\xzz"`,
	} {
		fault(t, src, 0, api.ErrText)
		fault(t, `x "y" `+src, 6, api.ErrText)
	}
	fault(t, "\"a\" \"b\n", 4, api.ErrText)
	fault(t, `"a"b"`, 4, api.ErrText)
}

func TestScanEachByteInString(t *testing.T) {
	for b := range 256 {
		s := string([]byte{byte(b)})
		switch s {
		case `"`:
			tokens(t, `"`+s+`;`, str("", 0), mark(";", 2))
		case `\`, "\n":
			fault(t, `"`+s+`#"`, 0, api.ErrText)
		default:
			tokens(t, `"`+s+`"`, str(s, 0))
		}
		switch s {
		case "n", "t", `"`, `\`, "x":
		default:
			fault(t, `"\`+s+`00"`, 0, api.ErrText)
		}
	}
}

func TestScanStringLimit(t *testing.T) {
	for _, piece := range []struct{ src, meant string }{{"b", "b"}, {`\n`, "\n"}, {`\x41`, "A"}, {`\\`, `\`}} {
		most := strings.Repeat(piece.src, api.MaxLen)
		meant := strings.Repeat(piece.meant, api.MaxLen)
		tokens(t, `"`+most+`"`, str(meant, 0))
		fault(t, `"`+most+piece.src+`"`, 0, api.ErrText)
		fault(t, `a "`+most+piece.src+`"`, 2, api.ErrText)
		fault(t, `"`+most+"b\"", 0, api.ErrText)
		fault(t, `"b`+most+`"`, 0, api.ErrText)
	}
	fault(t, `"`+strings.Repeat("b", api.MaxText-1), 0, api.ErrText)
}

func TestScanMarks(t *testing.T) {
	known := "( ) { } [ ] , ; . : := = == != < <= > >= + - * / % & && || !"
	for s := range strings.FieldsSeq(known) {
		tokens(t, s, mark(s, 0))
		tokens(t, "a"+s+"b", name("a", 0), mark(s, 1), name("b", 1+len(s)))
	}
	tokens(t, "===", mark("==", 0), mark("=", 2))
	tokens(t, "!==", mark("!=", 0), mark("=", 2))
	tokens(t, ":==", mark(":=", 0), mark("=", 2))
	tokens(t, "::=", mark(":", 0), mark(":=", 1))
	tokens(t, ">>=", mark(">", 0), mark(">=", 1))
	tokens(t, "||||", mark("||", 0), mark("||", 2))
	tokens(t, "=:", mark("=", 0), mark(":", 1))
	tokens(t, "++--", mark("+", 0), mark("+", 1), mark("-", 2), mark("-", 3))
	tokens(t, "< =", mark("<", 0), mark("=", 2))
	tokens(t, "...", mark(".", 0), mark(".", 1), mark(".", 2))
	for _, s := range []string{"|", "#", "$", "'", "?", "@", "^", "`", "~", "\\", "|=", "| |"} {
		fault(t, s, 0, api.ErrText)
		fault(t, "( "+s, 2, api.ErrText)
	}
	fault(t, "|||", 2, api.ErrText)
	fault(t, "&|", 1, api.ErrText)
}

// P1.1: the limits, and which error is looked at first.

func TestScanFirstFault(t *testing.T) {
	fault(t, "a 01 #", 2, api.ErrText)
	fault(t, "a # 01", 2, api.ErrText)
	fault(t, "// #\n  \"\n #", 7, api.ErrText)
	fault(t, "func main(){ | }", 13, api.ErrText)
}

func TestScanLongText(t *testing.T) {
	tokens(t, strings.Repeat(" ", api.MaxText))
	tokens(t, strings.Repeat(" ", api.MaxText-1)+"a", name("a", api.MaxText-1))
	fault(t, strings.Repeat(" ", api.MaxText-1)+"#", api.MaxText-1, api.ErrText)
	fault(t, strings.Repeat(" ", api.MaxText+1), 0, api.ErrLong)
	fault(t, "#"+strings.Repeat(" ", api.MaxText), 0, api.ErrLong)
	fault(t, "a #"+strings.Repeat(" ", api.MaxText), 0, api.ErrLong)
	fault(t, strings.Repeat(";", api.MaxText), api.MaxTokens, api.ErrLarge)
	fault(t, strings.Repeat(";", api.MaxText+1), 0, api.ErrLong)
}

func TestScanManyTokens(t *testing.T) {
	full := strings.Repeat(";", api.MaxTokens)
	for _, behind := range []string{"", " ", "\n//x", " //x\n"} {
		list, at, e := scan.Scan(full + behind)
		if len(list) != api.MaxTokens || at != 0 || e != api.OK {
			t.Errorf("%q behind: %d tokens, %d, %d", behind, len(list), at, e)
		}
	}
	for _, behind := range []string{";", "a", "1", "\"a\"", "#", "|", "\"a", "01", strings.Repeat("n", api.MaxName+1)} {
		fault(t, full+behind, api.MaxTokens, api.ErrLarge)
		fault(t, full+" //x\n"+behind, api.MaxTokens+5, api.ErrLarge)
	}
	fault(t, full[1:]+"#", api.MaxTokens-1, api.ErrText)
	fault(t, full[1:]+"# ;", api.MaxTokens-1, api.ErrText)
	fault(t, "#"+full, 0, api.ErrText)
}

// R4, R5: two answers share nothing, and nothing is kept.

func TestScanSharesNothing(t *testing.T) {
	src := "a := \"b\" ; c"
	first, _, _ := scan.Scan(src)
	second, _, _ := scan.Scan(src)
	for i := range first[:cap(first)] {
		first[:cap(first)][i] = api.Token{Kind: 99, Text: "z"}
	}
	scan.Scan("#")
	want := []api.Token{name("a", 0), mark(":=", 2), str("b", 5), mark(";", 9), name("c", 11)}
	if !slices.Equal(second, want) {
		t.Errorf("%v; want %v", second, want)
	}
	tokens(t, src, want...)
}

// P1.2

func TestQuote(t *testing.T) {
	for s, want := range map[string]string{
		"": `""`, "a b": `"a b"`, "\n\t\"\\": `"\n\t\"\\"`, "\r": `"\x0d"`, "\x00\x1f\x7f\x80\xff": `"\x00\x1f\x7f\x80\xff"`,
		" ~": `" ~"`, "é": `"\xc3\xa9"`, `\n`: `"\\n"`, "\xab\xcd\xef": `"\xab\xcd\xef"`, "'`//": "\"'`//\"",
	} {
		if got := scan.Quote(s); got != want {
			t.Errorf("Quote(%q) = %s; want %s", s, got, want)
		}
	}
}

func TestQuoteEachByte(t *testing.T) {
	for b := range 256 {
		s := string([]byte{byte(b)})
		want := s
		switch {
		case b == 10:
			want = `\n`
		case b == 9:
			want = `\t`
		case b == 34:
			want = `\"`
		case b == 92:
			want = `\\`
		case b < 16:
			want = `\x0` + strconv.FormatInt(int64(b), 16)
		case b < 32 || b > 126:
			want = `\x` + strconv.FormatInt(int64(b), 16)
		}
		if got := scan.Quote("a" + s + s); got != `"a`+want+want+`"` {
			t.Errorf("Quote of the byte %d: %s", b, got)
		}
	}
}

// What follows of P1.1 and P1.2 (and P2): Scan of Quote is the string.

func TestScanOfQuote(t *testing.T) {
	var all []byte
	for b := range 256 {
		all = append(all, byte(b))
		s := string([]byte{byte(b)})
		tokens(t, scan.Quote(s), str(s, 0))
		most := strings.Repeat(s, api.MaxLen)
		tokens(t, scan.Quote(most), str(most, 0))
		fault(t, scan.Quote(most+s), 0, api.ErrText)
		for c := range 256 {
			pair := string([]byte{byte(b), byte(c)})
			tokens(t, scan.Quote(pair), str(pair, 0))
		}
	}
	tokens(t, scan.Quote(string(all)), str(string(all), 0))
	long := strings.Repeat("\x00", api.MaxText)
	if got := scan.Quote(long); got != `"`+strings.Repeat(`\x00`, api.MaxText)+`"` {
		t.Errorf("Quote of a long string has %d bytes", len(got))
	}
}

// P1.3

func TestName(t *testing.T) {
	most := strings.Repeat("n", api.MaxName)
	for _, s := range []string{"a", "z", "A", "Z", "_", "_1", "a0", "x_9Z", "fors", "For", "nil0", "_nil", "main", most, "_" + most[1:]} {
		if !scan.Name(s) {
			t.Errorf("Name(%q) = false", s)
		}
	}
	for _, s := range []string{
		"", " ", "1", "1a", "0", "a b", " a", "a ", "a\n", "\ta", "a//x", "//a", "a;", "a.b", "-a", "\"a\"", "é", "a\xc3\xa9", "a\x00", "\x00", "a-", "|", "(",
		most + "n", strings.Repeat("n", api.MaxText), strings.Repeat("n", api.MaxText+1), strings.Repeat(" ", api.MaxText+1),
	} {
		if scan.Name(s) {
			t.Errorf("Name(%s) = true", short(s))
		}
	}
	for s := range strings.FieldsSeq("type struct interface func var if else for return break continue true false nil") {
		if scan.Name(s) || !scan.Name(s+"_") || !scan.Name(strings.ToUpper(s)) {
			t.Errorf("Name and the word %s", s)
		}
	}
}

func TestNameEachByte(t *testing.T) {
	for b := range 256 {
		s := string([]byte{byte(b)})
		letter := strings.Contains("abcdefghijklmnopqrstuvwxyzABCDEFGHIJKLMNOPQRSTUVWXYZ_", s)
		digit := strings.Contains("0123456789", s)
		if scan.Name(s) != letter || scan.Name(s+"q") != letter || scan.Name("q"+s) != (letter || digit) || scan.Name("q"+s+"q") != (letter || digit) {
			t.Errorf("Name and the byte %d", b)
		}
	}
}
