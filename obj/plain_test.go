package obj

import (
	"bytes"
	"encoding/binary"
	"math/rand"
	"regexp"
	"strings"
	"testing"

	"carrel/api"
	"carrel/word"
)

var plainName = regexp.MustCompile(`^[a-zA-Z][a-zA-Z0-9]{0,19}$`)

// plainRight is the chapter's list of when an object is right, said as it stands there.
func plainRight(o api.Object) bool {
	ok := true
	ask := func(holds bool) { ok = ok && holds }
	within := func(n, low, high int) { ask(low <= n && n <= high) }
	words := len(o.Code)
	ask(plainName.MatchString(o.Name))
	within(len(o.Imports), 0, 16)
	names := map[string]int{o.Name: 1}
	for _, m := range o.Imports {
		ask(plainName.MatchString(m.Name))
		names[m.Name]++
		ask(names[m.Name] == 1)
	}
	within(words, 1, 65536)
	within(len(o.Procs), 0, 100)
	ask(len(o.Names) == len(o.Procs) && len(o.Exports) == len(o.Procs))
	for _, p := range o.Procs {
		within(p, 0, words-1)
	}
	names = map[string]int{}
	for _, n := range o.Names {
		ask(plainName.MatchString(n))
		names[n]++
		ask(names[n] == 1)
	}
	within(o.Init, 0, words-1)
	within(len(o.Vars), 0, 200)
	for _, v := range o.Vars {
		within(v, 1, 16384)
	}
	for i, s := range o.Shown {
		within(s, 0, len(o.Vars)-1)
		ask(i == 0 || o.Shown[i-1] < s)
	}
	within(len(o.Strings), 0, 200)
	for _, s := range o.Strings {
		within(len(s), 0, 200)
	}
	return ok && plainDescsRight(o) && plainFixesRight(o)
}

func plainDescsRight(o api.Object) bool {
	types := map[int]bool{}
	for _, d := range o.Descs {
		types[d.Type] = true
	}
	for i, d := range o.Descs {
		if d.Type < 8 || d.Type > 199 || i > 0 && o.Descs[i-1].Type >= d.Type {
			return false
		}
		if d.Size < 0 || d.Size > 16384 || d.Size%4 != 0 {
			return false
		}
		if len(d.Tags) < 1 || len(d.Tags) > 4 || d.Tags[len(d.Tags)-1] != d.Type {
			return false
		}
		for _, tag := range d.Tags {
			if !types[tag] {
				return false
			}
		}
	}
	return len(o.Descs) <= 200
}

func plainFixesRight(o api.Object) bool {
	types := map[int]bool{}
	for _, d := range o.Descs {
		types[d.Type] = true
	}
	for i, f := range o.Fixes {
		if f.At < 0 || f.At >= len(o.Code) || f.Kind != 1 && f.At >= len(o.Code)-1 || i > 0 && o.Fixes[i-1].At >= f.At {
			return false
		}
		if f.Kind < 1 || f.Kind > 5 || f.M < -1 || f.M >= len(o.Imports) || (f.Kind == 3 || f.Kind == 4) && f.M != -1 {
			return false
		}
		own := map[int]int{1: len(o.Procs), 5: len(o.Procs), 2: len(o.Vars), 3: len(o.Strings), 4: 200}
		others := map[int]int{1: 100, 5: 100, 2: 200}
		if f.N < 0 || f.M == -1 && f.N >= own[f.Kind] || f.M != -1 && f.N >= others[f.Kind] || f.Kind == 4 && !types[f.N] {
			return false
		}
	}
	return len(o.Fixes) <= 65536
}

// plainReader reads by the library's numbers, and gives up by a panic with the place.
type plainReader struct {
	b  []byte
	at int
}

func (r *plainReader) uint(most uint64) int {
	n, size := binary.Uvarint(r.b[r.at:])
	if size <= 0 || n > 1<<32-1 || n > most || len(binary.AppendUvarint(nil, n)) != size {
		panic(r.at)
	}
	r.at += size
	return int(n)
}

func (r *plainReader) bytes(n int) []byte {
	if len(r.b)-r.at < n {
		panic(r.at)
	}
	r.at += n
	return r.b[r.at-n : r.at]
}

func (r *plainReader) text(most uint64) string {
	begin := r.at
	n := r.uint(most)
	if len(r.b)-r.at < n {
		panic(begin)
	}
	return string(r.bytes(n))
}

func (r *plainReader) word() uint32 { return binary.LittleEndian.Uint32(r.bytes(4)) }

const anyNumber = 1<<32 - 1

// plainDecode is P7.3, said as it stands there.
func plainDecode(b []byte) (o api.Object, at int, e api.Errno) {
	if len(b) > 1<<20 || len(b) < 8 || string(b[:4]) != "CRO1" {
		return o, 0, api.ErrObjByte
	}
	end := len(b) - 4
	if binary.LittleEndian.Uint32(b[end:]) != word.Sum(b[:end]) {
		return o, end, api.ErrObjSum
	}
	defer func() {
		if place, stuck := recover().(int); stuck {
			o, at, e = api.Object{}, place, api.ErrObjByte
		}
	}()
	r := &plainReader{b[:end], 4}
	plainRead(r, &o)
	if r.at != end {
		panic(r.at)
	}
	if !plainRight(o) {
		return api.Object{}, 0, api.ErrObjForm
	}
	return o, 0, api.OK
}

func plainRead(r *plainReader, o *api.Object) {
	o.Name, o.Key = r.text(20), r.word()
	for range r.uint(16) {
		name := r.text(20)
		o.Imports = append(o.Imports, api.Import{Name: name, Key: r.word()})
	}
	for range r.uint(65536) {
		o.Code = append(o.Code, r.word())
	}
	for range r.uint(100) {
		o.Procs = append(o.Procs, r.uint(anyNumber))
		o.Names = append(o.Names, r.text(20))
		exported := r.bytes(1)[0]
		if exported > 1 {
			panic(r.at - 1)
		}
		o.Exports = append(o.Exports, exported == 1)
	}
	o.Init = r.uint(anyNumber)
	for range r.uint(200) {
		o.Vars = append(o.Vars, r.uint(anyNumber))
	}
	for range r.uint(200) {
		o.Shown = append(o.Shown, r.uint(anyNumber))
	}
	for range r.uint(200) {
		o.Strings = append(o.Strings, r.text(200))
	}
	for range r.uint(200) {
		d := api.Desc{Type: r.uint(anyNumber)}
		d.Size = r.uint(anyNumber)
		for range r.uint(4) {
			d.Tags = append(d.Tags, r.uint(anyNumber))
		}
		o.Descs = append(o.Descs, d)
	}
	for range r.uint(65536) {
		f := api.Fix{At: r.uint(anyNumber)}
		f.Kind = int(r.bytes(1)[0])
		f.M = r.uint(16) - 1
		f.N = r.uint(anyNumber)
		o.Fixes = append(o.Fixes, f)
	}
}

// chanceObject is a small right object of chance.
func chanceObject(chance *rand.Rand) api.Object {
	o := api.Object{Name: letters(chance.Intn(500)), Key: chance.Uint32(), Code: make([]uint32, 1+chance.Intn(40))}
	for i := range o.Code {
		o.Code[i] = chance.Uint32() << chance.Intn(32)
	}
	o.Init = chance.Intn(len(o.Code))
	for i := range chance.Intn(5) {
		o.Imports = append(o.Imports, api.Import{Name: letters(i) + "0", Key: chance.Uint32()})
	}
	for i := range chance.Intn(5) {
		o.Procs = append(o.Procs, chance.Intn(len(o.Code)))
		o.Names = append(o.Names, letters(i+chance.Intn(2)*26*i))
		o.Exports = append(o.Exports, chance.Intn(2) == 0)
	}
	for i := range chance.Intn(7) {
		o.Vars = append(o.Vars, 1+chance.Intn(16384)>>chance.Intn(15))
		if chance.Intn(2) == 0 {
			o.Shown = append(o.Shown, i)
		}
	}
	for range chance.Intn(4) {
		o.Strings = append(o.Strings, strings.Repeat(string([]byte{byte(chance.Intn(256))}), chance.Intn(201)))
	}
	o.Descs = chanceDescs(chance)
	o.Fixes = chanceFixes(chance, o)
	return o
}

func chanceDescs(chance *rand.Rand) []api.Desc {
	var out []api.Desc
	for t := 8 + chance.Intn(50); t < 200; t += 1 + chance.Intn(60) {
		d := api.Desc{Type: t, Size: 4 * (chance.Intn(4097) >> chance.Intn(13))}
		for range chance.Intn(4) {
			if len(out) > 0 {
				d.Tags = append(d.Tags, out[chance.Intn(len(out))].Type)
			}
		}
		d.Tags = append(d.Tags, t)
		out = append(out, d)
	}
	return out
}

func chanceFixes(chance *rand.Rand, o api.Object) []api.Fix {
	var out []api.Fix
	for at := chance.Intn(4); at < len(o.Code); at += 1 + chance.Intn(4) {
		f := api.Fix{At: at, Kind: 1 + chance.Intn(5), M: chance.Intn(len(o.Imports)+1) - 1}
		f.N = chance.Intn(200)
		if f.M == -1 {
			f.N = chance.Intn(8)
		}
		if f.Kind == api.FixDesc && len(o.Descs) > 0 {
			f.N = o.Descs[chance.Intn(len(o.Descs))].Type
		}
		tried := o
		tried.Fixes = append(append([]api.Fix(nil), out...), f)
		if plainFixesRight(tried) {
			out = tried.Fixes
		}
	}
	return out
}

// spoilt are an object's bytes, changed at some places, with the right sum.
func spoilt(chance *rand.Rand, b []byte) []byte {
	out := bytes.Clone(b[:len(b)-4])
	for range 1 + chance.Intn(3) {
		at := 4 + chance.Intn(len(out)-3)
		c := []byte{0, 1, 2, 3, 4, 5, 8, 16, 17, 100, 101, 127, 128, 129, 199, 200, 201, 255}[chance.Intn(18)]
		switch {
		case at == len(out) || chance.Intn(8) == 0:
			out = append(out[:at], append([]byte{c}, out[at:]...)...)
		case chance.Intn(8) == 0:
			out = append(out[:at], out[at+1:]...)
		case chance.Intn(2) == 0:
			out[at] = c
		default:
			out[at] += byte(chance.Intn(3) - 1)
		}
	}
	return summed(string(out))
}

func TestDecodeOfBytesOfChance(t *testing.T) { // P7.3, P7.5
	chance := rand.New(rand.NewSource(73))
	told := map[api.Errno]int{}
	for range 60000 {
		b := spoilt(chance, writes(t, chanceObject(chance)))
		want, at, e := plainDecode(b)
		told[e]++
		if e != api.OK {
			refuses(t, b, at, e)
		} else {
			reads(t, b, want)
			if again := writes(t, want); !bytes.Equal(again, b) {
				t.Errorf("%x is written as %x", b, again)
			}
		}
		if t.Failed() {
			return
		}
	}
	for _, e := range []api.Errno{api.OK, api.ErrObjByte, api.ErrObjForm} {
		if told[e] < 1000 {
			t.Errorf("only %d of %v", told[e], e)
		}
	}
}

// A change of one number by one, or to something far off, of objects of chance.
func TestRightOfObjectsOfChance(t *testing.T) { // P7.2
	chance := rand.New(rand.NewSource(72))
	told := map[bool]int{}
	for range 60000 {
		o := chanceObject(chance)
		if !Right(o) {
			t.Fatalf("not right: %v", o)
		}
		n := numbersOf(&o)
		which := n[chance.Intn(len(n))]
		*which = []int{*which - 1, *which + 1, -*which, 0, chance.Intn(300), chance.Intn(20000)}[chance.Intn(6)]
		want := plainRight(o)
		told[want]++
		b, e := Encode(o)
		if Right(o) != want || (e == api.OK) != want || !want && (e != api.ErrObjForm || len(b) > 0) {
			t.Fatalf("%v: %v, %v", o, Right(o), e)
		}
	}
	if told[true] < 1000 || told[false] < 1000 {
		t.Error(told)
	}
}

// numbersOf are the places of all numbers of an object that may not be any.
func numbersOf(o *api.Object) []*int {
	out := []*int{&o.Init}
	for _, list := range [][]int{o.Procs, o.Vars, o.Shown} {
		for i := range list {
			out = append(out, &list[i])
		}
	}
	for i := range o.Descs {
		out = append(out, &o.Descs[i].Type, &o.Descs[i].Size)
		for k := range o.Descs[i].Tags {
			out = append(out, &o.Descs[i].Tags[k])
		}
	}
	for i := range o.Fixes {
		out = append(out, &o.Fixes[i].At, &o.Fixes[i].Kind, &o.Fixes[i].M, &o.Fixes[i].N)
	}
	return out
}

func TestDecodeOfAnyBytes(t *testing.T) { // R1, P7.3
	chance := rand.New(rand.NewSource(74))
	for range 20000 {
		b := make([]byte, chance.Intn(40))
		for i := range b {
			b[i] = byte(chance.Intn(256) >> chance.Intn(8))
		}
		for _, b := range [][]byte{b, summed(string(b)), summed("CRO1" + string(b))} {
			_, at, e := plainDecode(b)
			if e == api.OK {
				continue
			}
			refuses(t, b, at, e)
		}
	}
}
