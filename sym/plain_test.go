package sym

import (
	"bytes"
	"encoding/binary"
	"math/rand"
	"regexp"
	"strconv"
	"strings"
	"testing"

	"carrel/api"
)

var plainName = regexp.MustCompile(`^[a-zA-Z][a-zA-Z0-9]{0,19}$`)

// plainRight is the chapter's list of when symbols are right, said as it stands there.
func plainRight(s api.Sym) bool {
	ok := plainName.MatchString(s.Name) && len(s.Consts) <= 200 && len(s.Vars) <= 200 && len(s.Procs) <= 100
	ask := func(holds bool) { ok = ok && holds }
	names := map[string]int{}
	named := func(name string) {
		ask(plainName.MatchString(name))
		names[name]++
		ask(names[name] == 1)
	}
	most := map[int]int64{1: 1<<31 - 1, 2: 1, 3: 255, 5: 1<<32 - 1, 7: 0}
	least := map[int]int64{1: -1 << 31}
	for _, c := range s.Consts {
		named(c.Name)
		top, known := most[c.Type]
		ask(known && least[c.Type] <= c.N && c.N <= top && c.Export)
		ask(c.S == "" || c.Type == 7 && len(c.S) <= 200)
	}
	size := map[int]int{1: 4, 2: 1, 3: 1, 4: 1, 5: 4}
	for _, v := range s.Vars {
		named(v.Name)
		ask(size[v.Form] > 0 && v.Len >= 0 && v.Len <= 16384 && v.Len*size[v.Form] <= 16384 && !v.Open && !v.Ref)
	}
	for _, p := range s.Procs {
		named(p.Name)
		ask(len(p.Params) <= 8 && (p.Result == 0 || size[p.Result] > 0))
		for _, v := range p.Params {
			ask(v.Name == "" && size[v.Form] > 0 && v.Len == 0)
		}
	}
	return ok
}

// plainReader reads by the library's numbers, and gives up by a panic with the place.
type plainReader struct {
	b  []byte
	at int
}

func (r *plainReader) uint(most uint64) int {
	n, size := binary.Uvarint(r.b[r.at:])
	if size <= 0 || n > 1<<32-1 || n > most || len(binary.AppendUvarint(nil, n)) != size {
		panic(r.at)
	}
	r.at += size
	return int(n)
}

func (r *plainReader) bytes(n int) []byte {
	if len(r.b)-r.at < n {
		panic(r.at)
	}
	r.at += n
	return r.b[r.at-n : r.at]
}

func (r *plainReader) text(most uint64) string {
	begin := r.at
	n := r.uint(most)
	if len(r.b)-r.at < n {
		panic(begin)
	}
	return string(r.bytes(n))
}

func (r *plainReader) oneOf(list string) int {
	c := r.bytes(1)[0]
	if strings.IndexByte(list, c) < 0 {
		panic(r.at - 1)
	}
	return int(c)
}

// plainDecode is P13.3, said as it stands there.
func plainDecode(b []byte) (s api.Sym, at int, e api.Errno) {
	if len(b) > 1<<20 || !bytes.HasPrefix(b, []byte("CRS1")) {
		return s, 0, api.ErrSymByte
	}
	defer func() {
		if place, stuck := recover().(int); stuck {
			s, at, e = api.Sym{}, place, api.ErrSymByte
		}
	}()
	r := &plainReader{b, 4}
	plainRead(r, &s)
	if r.at != len(b) {
		panic(r.at)
	}
	if !plainRight(s) {
		return api.Sym{}, 0, api.ErrSymForm
	}
	return s, 0, api.OK
}

func plainRead(r *plainReader, s *api.Sym) {
	s.Name = r.text(20)
	for range r.uint(200) {
		c := api.Const{Name: r.text(20), Export: true}
		c.Type = r.oneOf("\x01\x02\x03\x05\x07")
		if c.Type == 7 {
			c.S = r.text(200)
		} else if n := binary.LittleEndian.Uint32(r.bytes(4)); c.Type == 1 {
			c.N = int64(int32(n))
		} else {
			c.N = int64(n)
		}
		s.Consts = append(s.Consts, c)
	}
	for range r.uint(200) {
		v := api.SymVar{Name: r.text(20)}
		v.Form = r.oneOf("\x01\x02\x03\x04\x05")
		v.Len = r.uint(1<<32 - 1)
		s.Vars = append(s.Vars, v)
	}
	for range r.uint(100) {
		p := api.SymProc{Name: r.text(20)}
		for range r.uint(8) {
			v := api.SymVar{Form: r.oneOf("\x01\x02\x03\x04\x05")}
			bits := r.oneOf("\x00\x01\x02\x03")
			v.Open, v.Ref = bits%2 == 1, bits/2 == 1
			p.Params = append(p.Params, v)
		}
		p.Result = r.oneOf("\x00\x01\x02\x03\x04\x05")
		s.Procs = append(s.Procs, p)
	}
}

// plainEncode is the chapter's bytes of right symbols, said as they stand there.
func plainEncode(s api.Sym) []byte {
	out := "CRS1" + text(s.Name) + number(uint64(len(s.Consts)))
	octet := func(n int) string { return string([]byte{byte(n)}) }
	for _, c := range s.Consts {
		out += text(c.Name) + octet(c.Type)
		if c.Type == 7 {
			out += text(c.S)
		} else {
			out += string(binary.LittleEndian.AppendUint32(nil, uint32(c.N)))
		}
	}
	out += number(uint64(len(s.Vars)))
	for _, v := range s.Vars {
		out += text(v.Name) + octet(v.Form) + number(uint64(v.Len))
	}
	out += number(uint64(len(s.Procs)))
	for _, p := range s.Procs {
		out += text(p.Name) + number(uint64(len(p.Params)))
		for _, v := range p.Params {
			bits := map[[2]bool]int{{true, false}: 1, {false, true}: 2, {true, true}: 3}[[2]bool{v.Open, v.Ref}]
			out += octet(v.Form) + octet(bits)
		}
		out += octet(p.Result)
	}
	return []byte(out)
}

// chanceSym is small right symbols of chance.
func chanceSym(chance *rand.Rand) api.Sym {
	next := 0
	name := func() string {
		next += 1 + chance.Intn(3)
		return strings.Repeat("xY9"[:1+chance.Intn(3)], 1+chance.Intn(5)) + strconv.Itoa(next)
	}
	flip := func() bool { return chance.Intn(2) == 0 }
	s := api.Sym{Name: name()}
	for range chance.Intn(6) {
		c := api.Const{Name: name(), Type: []int{1, 2, 3, 5, 7}[chance.Intn(5)], Export: true}
		switch c.Type {
		case api.Integer:
			c.N = int64(int32(chance.Uint32()) >> chance.Intn(32))
		case api.Boolean:
			c.N = int64(chance.Intn(2))
		case api.Char:
			c.N = int64(chance.Intn(256))
		case api.Set:
			c.N = int64(chance.Uint32() >> chance.Intn(32))
		case api.String:
			c.S = strings.Repeat(string([]byte{byte(chance.Intn(256))}), chance.Intn(201)>>chance.Intn(8))
		}
		s.Consts = append(s.Consts, c)
	}
	for range chance.Intn(6) {
		s.Vars = append(s.Vars, api.SymVar{Name: name(), Form: 1 + chance.Intn(5), Len: chance.Intn(4097) >> chance.Intn(14)})
	}
	for range chance.Intn(6) {
		p := api.SymProc{Name: name(), Result: chance.Intn(6)}
		for range chance.Intn(9) {
			p.Params = append(p.Params, api.SymVar{Form: 1 + chance.Intn(5), Open: flip(), Ref: flip()})
		}
		s.Procs = append(s.Procs, p)
	}
	return s
}

// spoilt are symbols' bytes, changed at some places.
func spoilt(chance *rand.Rand, b []byte) []byte {
	out := bytes.Clone(b)
	for range 1 + chance.Intn(3) {
		at := 4 + chance.Intn(len(out)-3)
		c := []byte{0, 1, 2, 3, 4, 5, 6, 7, 8, 9, 20, 21, 100, 101, 127, 128, 129, 199, 200, 201, 255}[chance.Intn(21)]
		switch {
		case at == len(out) || chance.Intn(8) == 0:
			out = append(out[:at], append([]byte{c}, out[at:]...)...)
		case chance.Intn(8) == 0 && len(out) > 5:
			out = append(out[:at], out[at+1:]...)
		case chance.Intn(2) == 0:
			out[at] = c
		default:
			out[at] += byte(chance.Intn(3) - 1)
		}
	}
	return out
}

func TestEncodeOfSymbolsOfChance(t *testing.T) { // P13.2
	chance := rand.New(rand.NewSource(132))
	for range 5000 {
		s := chanceSym(chance)
		if got, want := writes(t, s), plainEncode(s); !bytes.Equal(got, want) {
			t.Fatalf("%v: %x; want %x", s, got, want)
		}
	}
	if got, want := writes(t, sample()), plainEncode(sample()); !bytes.Equal(got, want) {
		t.Errorf("%x; want %x", got, want)
	}
}

func TestDecodeOfBytesOfChance(t *testing.T) { // P13.3, P13.5
	chance := rand.New(rand.NewSource(133))
	told := map[api.Errno]int{}
	for range 60000 {
		b := spoilt(chance, writes(t, chanceSym(chance)))
		want, at, e := plainDecode(b)
		told[e]++
		if e != api.OK {
			refuses(t, b, at, e)
		} else {
			reads(t, b, want)
			if again := writes(t, want); !bytes.Equal(again, b) {
				t.Errorf("%x is written as %x", b, again)
			}
		}
		if t.Failed() {
			return
		}
	}
	for _, e := range []api.Errno{api.OK, api.ErrSymByte, api.ErrSymForm} {
		if told[e] < 1000 {
			t.Errorf("only %d of %v", told[e], e)
		}
	}
}

func TestDecodeOfAnyBytes(t *testing.T) { // R1, P13.3
	chance := rand.New(rand.NewSource(134))
	for range 20000 {
		b := make([]byte, chance.Intn(40))
		for i := range b {
			b[i] = byte(chance.Intn(256) >> chance.Intn(8))
		}
		for _, b := range [][]byte{b, whole(string(b)), whole("\x01A", string(b))} {
			want, at, e := plainDecode(b)
			if e != api.OK {
				refuses(t, b, at, e)
			} else {
				reads(t, b, want)
			}
		}
	}
}

// A change of one number or text by a little, or to something far off, of symbols of chance.
func TestRightOfSymbolsOfChance(t *testing.T) { // P13.2
	chance := rand.New(rand.NewSource(131))
	told := map[bool]int{}
	for range 60000 {
		s := chanceSym(chance)
		if !Right(s) {
			t.Fatalf("not right: %v", s)
		}
		changes := changesOf(&s, chance)
		changes[chance.Intn(len(changes))]()
		want := plainRight(s)
		told[want]++
		b, e := Encode(s)
		if Right(s) != want || (e == api.OK) != want || !want && (e != api.ErrSymForm || len(b) > 0) {
			t.Fatalf("%v: %v, %v", s, Right(s), e)
		}
	}
	if told[true] < 1000 || told[false] < 1000 {
		t.Error(told)
	}
}

// changesOf are changes of each thing of symbols.
func changesOf(s *api.Sym, chance *rand.Rand) []func() {
	all := []*string{&s.Name}
	var out []func()
	number := func(n *int) {
		out = append(out, func() { *n = []int{*n - 1, *n + 1, -*n, 0, chance.Intn(13), chance.Intn(20000)}[chance.Intn(6)] })
	}
	flag := func(set *bool) { out = append(out, func() { *set = !*set }) }
	for i := range s.Consts {
		c := &s.Consts[i]
		all = append(all, &c.Name)
		number(&c.Type)
		flag(&c.Export)
		out = append(out, func() { c.N = []int64{c.N - 1, c.N + 1, -c.N, 2 * c.N, c.N + 1<<32, 0}[chance.Intn(6)] })
		out = append(out, func() { c.S += strings.Repeat("s", 1+chance.Intn(200)) })
	}
	variable := func(v *api.SymVar) {
		number(&v.Form)
		number(&v.Len)
		flag(&v.Open)
		flag(&v.Ref)
	}
	for i := range s.Vars {
		all = append(all, &s.Vars[i].Name)
		variable(&s.Vars[i])
	}
	for i := range s.Procs {
		p := &s.Procs[i]
		all = append(all, &p.Name)
		number(&p.Result)
		for k := range p.Params {
			variable(&p.Params[k])
			out = append(out, func() { p.Params[k].Name = "a" })
		}
	}
	for _, name := range all {
		out = append(out, func() {
			*name = []string{"", "9" + *name, *name + "_", *name + "z", "Z", *all[chance.Intn(len(all))]}[chance.Intn(6)]
		})
	}
	return out
}
