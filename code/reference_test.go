package code_test

import (
	"bytes"
	"math/big"
	"math/rand"
	"reflect"
	"testing"

	"halyard/api"
	"halyard/code"
)

// The second way: what a program's parts are is told by reflection, in the order in which package api has them, and numbers are big ones. Bytes are read without a look at how many a number has: they are right if the program that they are read as is spelled so.

// spelled: the bytes of a program, sound or not.
func spelled(p api.Prog) []byte { return spell([]byte("HY1"), reflect.ValueOf(p)) }

func spell(out []byte, v reflect.Value) []byte {
	switch v.Kind() {
	case reflect.Int:
		return append(out, sevens(v.Int())...)
	case reflect.String:
		return append(append(out, sevens(int64(v.Len()))...), v.String()...)
	case reflect.Struct:
		for i := range v.NumField() {
			out = spell(out, v.Field(i))
		}
		return out
	}
	out = append(out, sevens(int64(v.Len()))...)
	for i := range v.Len() {
		out = spell(out, v.Index(i))
	}
	return out
}

func sevens(n int64) []byte {
	z := new(big.Int).Mul(big.NewInt(n), big.NewInt(2))
	if n < 0 {
		z.Neg(z).Sub(z, big.NewInt(1))
	}
	var list []byte
	digit := new(big.Int)
	for {
		z.DivMod(z, big.NewInt(128), digit)
		list = append(list, byte(digit.Int64()))
		if z.Sign() == 0 {
			break
		}
	}
	for i := range list[:len(list)-1] {
		list[i] += 128
	}
	return list
}

// read fills a value from bytes; what is left, and whether that went well.
func read(b []byte, v reflect.Value) ([]byte, bool) {
	switch v.Kind() {
	case reflect.Int:
		n, rest, ok := readNumber(b)
		v.SetInt(n)
		return rest, ok
	case reflect.Struct:
		for i, ok := 0, true; i < v.NumField(); i++ {
			if b, ok = read(b, v.Field(i)); !ok {
				return nil, false
			}
		}
		return b, true
	}
	n, b, ok := readNumber(b)
	if !ok || n < 0 || n > int64(len(b)) {
		return nil, false
	}
	if v.Kind() == reflect.String {
		v.SetString(string(b[:n]))
		return b[n:], true
	}
	v.Set(reflect.MakeSlice(v.Type(), int(n), int(n)))
	for i := range int(n) {
		if b, ok = read(b, v.Index(i)); !ok {
			return nil, false
		}
	}
	return b, true
}

func readNumber(b []byte) (int64, []byte, bool) {
	z := new(big.Int)
	for i, x := range b {
		part := big.NewInt(int64(x % 128))
		z.Add(z, part.Lsh(part, uint(7*i)))
		if x < 128 {
			odd := z.Bit(0) == 1
			if z.Rsh(z, 1); odd {
				z.Neg(z).Sub(z, big.NewInt(1))
			}
			if !z.IsInt64() {
				return 0, nil, false
			}
			return z.Int64(), b[i+1:], true
		}
	}
	return 0, nil, false
}

// understood: the second way's Decode.
func understood(b []byte) (api.Prog, api.Errno) {
	var p api.Prog
	if len(b) > 4194304 {
		return p, api.ErrLong
	}
	if !bytes.HasPrefix(b, []byte("HY1")) {
		return p, api.ErrText
	}
	rest, ok := read(b[3:], reflect.ValueOf(&p).Elem())
	switch {
	case !ok || len(rest) > 0 || !bytes.Equal(spelled(p), b):
		return api.Prog{}, api.ErrText
	case !within(p):
		return api.Prog{}, api.ErrForm
	}
	return p, api.OK
}

// within: the second way's Sound: each number beside the most that it may be.
func within(p api.Prog) bool {
	ok := len(p.Types) <= 1024 && len(p.Funcs) <= 4096 && len(p.Tables) <= 1024 && len(p.Strs) <= 1024
	for _, l := range p.Types {
		ok = ok && len(l.Fields) <= 4096
	}
	for _, f := range p.Funcs {
		ok = ok && max(len(f.Locals), len(f.Results), len(f.Areas)) <= 4096 && len(f.Code) <= 65536
		ok = ok && min(max(f.Params, 0), len(f.Locals)) == f.Params
		for _, i := range f.Code {
			ok = ok && min(max(i.Op, 1), 29) == i.Op
		}
	}
	for _, list := range p.Tables {
		ok = ok && len(list) <= 4096
	}
	for _, s := range p.Strs {
		ok = ok && len(s) <= 1024
	}
	return ok
}

// holdBytes: Decode against the second way; what is understood comes back by Encode.
func holdBytes(t *testing.T, b []byte) api.Errno {
	t.Helper()
	p, e := understood(b)
	wantDecode(t, b, p, e)
	if e == api.OK {
		wantSound(t, p, true)
		wantEncode(t, p, b, api.OK)
	}
	return e
}

// holdProgram: Sound, Encode and Decode of its bytes against the second way.
func holdProgram(t *testing.T, p api.Prog) {
	t.Helper()
	if within(p) {
		wantBoth(t, p, spelled(p))
	} else {
		wantUnsound(t, p)
	}
}

// All texts of few bytes, of such as numbers begin with, end with and are; behind the right beginning.
func TestAllShort(t *testing.T) {
	letters := []byte{0, 1, 2, 4, 128, 255}
	met := map[api.Errno]int{}
	for n := range 9 {
		b := whole(make([]byte, n)...)
		var fill func(at int)
		fill = func(at int) {
			if at == len(b) {
				met[holdBytesQuick(t, b)]++
				return
			}
			for _, x := range letters {
				b[at] = x
				fill(at + 1)
			}
		}
		fill(3)
	}
	if met[api.OK] < 30 || met[api.ErrText] < 1000 {
		t.Errorf("the texts met too little: %v", met)
	}
}

// holdBytesQuick is holdBytes for many texts.
func holdBytesQuick(t *testing.T, b []byte) api.Errno {
	p, e := understood(b)
	if q, f := code.Decode(b); e != f || !same(p, q) {
		t.Fatalf("Decode(%v): %v, %d; want %v, %d", b, q, f, p, e)
	}
	return e
}

// dice makes random programs.
type dice struct{ *rand.Rand }

func (d dice) count() int {
	if d.Intn(20) == 0 {
		return d.Intn(200)
	}
	return d.Intn(4)
}

func (d dice) number() int {
	switch d.Intn(4) {
	case 0:
		return int(d.Uint64() >> d.Intn(64))
	case 1:
		return -int(d.Uint64() >> d.Intn(64))
	}
	return d.Intn(200) - 100
}

func (d dice) numbers() []int {
	list := make([]int, d.count())
	for i := range list {
		list[i] = d.number()
	}
	return list
}

// program: a sound one; if wild, mostly not.
func (d dice) program(wild bool) api.Prog {
	var p api.Prog
	for range d.count() {
		p.Types = append(p.Types, api.Layout{Fields: d.numbers()})
	}
	for range d.count() {
		p.Funcs = append(p.Funcs, d.function(wild))
	}
	for range d.count() {
		p.Tables = append(p.Tables, d.numbers())
	}
	for range d.count() {
		text := make([]byte, d.count())
		d.Read(text)
		p.Strs = append(p.Strs, string(text))
	}
	return p
}

func (d dice) function(wild bool) api.Func {
	f := api.Func{Locals: d.numbers(), Results: d.numbers(), Areas: d.numbers()}
	f.Params = d.Intn(len(f.Locals) + 1)
	if wild && d.Intn(3) == 0 {
		f.Params += d.number()
	}
	for range d.count() {
		i := api.Instr{Op: 1 + d.Intn(29), A: d.number(), B: d.number()}
		if wild && d.Intn(3) == 0 {
			i.Op = d.Intn(32) - 1
		}
		f.Code = append(f.Code, i)
	}
	return f
}

// P2, P10.1, P10.2: random programs there and back.
func TestRandomPrograms(t *testing.T) {
	for seed := range 3000 {
		d := dice{rand.New(rand.NewSource(int64(seed)))}
		holdProgram(t, d.program(seed%3 == 0))
	}
}

// P10.2: the bytes of random programs, changed.
func TestChangedBytes(t *testing.T) {
	met := map[api.Errno]int{}
	for seed := range 8000 {
		d := dice{rand.New(rand.NewSource(int64(seed)))}
		b := spelled(d.program(false))
		for range 1 + d.Intn(3) {
			b = d.changed(b)
		}
		met[holdBytes(t, b)]++
	}
	if met[api.OK] < 500 || met[api.ErrText] < 500 || met[api.ErrForm] < 50 {
		t.Errorf("the bytes met too little: %v", met)
	}
}

// changed: one byte is another, is left out or comes in.
func (d dice) changed(b []byte) []byte {
	at := d.Intn(len(b) + 1)
	head, tail := b[:at], b[min(at+1, len(b)):]
	x := byte(d.Intn(256))
	if d.Intn(2) == 0 {
		x = byte(d.Intn(4))
	}
	switch d.Intn(4) {
	case 0:
		tail = b[at:]
		fallthrough
	case 1, 2:
		head = append(bytes.Clone(head), x)
	}
	return append(bytes.Clone(head), tail...)
}

func FuzzDecode(f *testing.F) {
	f.Add(fullBytes())
	f.Add(whole(0, 0, 0, 0))
	f.Add(whole(0, 2, 1, 0, 0, 0, 2, 60, 1, 128, 1, 0, 0))
	f.Fuzz(func(t *testing.T, b []byte) { holdBytes(t, b) })
}
