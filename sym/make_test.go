package sym

import (
	"reflect"
	"slices"
	"strings"
	"testing"

	"carrel/api"
)

// sample is right symbols with something of everything.
func sample() api.Sym {
	return api.Sym{
		Name: "Mod1",
		Consts: []api.Const{
			{Name: "n", Type: api.Integer, N: -2, Export: true},
			{Name: "b", Type: api.Boolean, N: 1, Export: true},
			{Name: "c", Type: api.Char, N: 255, Export: true},
			{Name: "e", Type: api.Set, N: 0xFFFFFFFF, Export: true},
			{Name: "s", Type: api.String, S: "a\x00\xFFb", Export: true},
			{Name: "a2345678901234567890", Type: api.String, Export: true},
		},
		Vars: []api.SymVar{
			{Name: "x", Form: api.Integer},
			{Name: "y", Form: api.Char, Len: 16384},
			{Name: "Mod1", Form: api.Set, Len: 1},
		},
		Procs: []api.SymProc{
			{Name: "P"},
			{Name: "q9", Params: []api.SymVar{{Form: api.Integer}, {Form: api.Boolean, Open: true}, {Form: api.Byte, Ref: true}, {Form: api.Set, Open: true, Ref: true}}, Result: api.Set},
			{Name: "END", Params: []api.SymVar{{Form: api.Char}}, Result: api.Byte},
		},
	}
}

// sampleParts are the sample's bytes behind `CRS1`, as the chapter names them, each thing by itself.
func sampleParts() []string {
	return []string{
		"\x04Mod1",
		"\x06",
		"\x01n", "\x01", "\xFE\xFF\xFF\xFF",
		"\x01b", "\x02", "\x01\x00\x00\x00",
		"\x01c", "\x03", "\xFF\x00\x00\x00",
		"\x01e", "\x05", "\xFF\xFF\xFF\xFF",
		"\x01s", "\x07", "\x04a\x00\xFFb",
		"\x14a2345678901234567890", "\x07", "\x00",
		"\x03",
		"\x01x", "\x01", "\x00",
		"\x01y", "\x03", "\x80\x80\x01",
		"\x04Mod1", "\x05", "\x01",
		"\x03",
		"\x01P", "\x00", "\x00",
		"\x02q9", "\x04", "\x01", "\x00", "\x02", "\x01", "\x04", "\x02", "\x05", "\x03", "\x05",
		"\x03END", "\x01", "\x03", "\x00", "\x04",
	}
}

// The places of some of the sample's parts.
const (
	partName      = 0
	partConsts    = 1
	partConst     = 2
	partConstType = 3
	partConstN    = 4
	partBoolN     = 7
	partCharN     = 10
	partSetN      = 13
	partString    = 16
	partVars      = 20
	partVar       = 21
	partVarForm   = 22
	partVarLen    = 23
	partLastLen   = 29
	partProcs     = 30
	partProc      = 31
	partParams    = 32
	partResult    = 33
	partForm      = 36
	partBits      = 37
)

// whole are symbols' bytes of what stands behind `CRS1`.
func whole(parts ...string) []byte { return []byte("CRS1" + strings.Join(parts, "")) }

// placeOf is that of a part of symbols' bytes.
func placeOf(parts []string, which int) int { return 4 + len(strings.Join(parts[:which], "")) }

// with is the sample's parts with another one in the place of one of them.
func with(which int, part string) []string {
	parts := sampleParts()
	parts[which] = part
	return parts
}

// number is a number's bytes, worked out by division.
func number(n uint64) string {
	if n < 128 {
		return string([]byte{byte(n)})
	}
	return string([]byte{byte(128 + n%128)}) + number(n/128)
}

func text(s string) string { return number(uint64(len(s))) + s }

// plainly is symbols whose empty lists are nil: nil and empty ones are one.
func plainly(s api.Sym) api.Sym {
	s.Consts, s.Vars, s.Procs = emptyIsNil(s.Consts), emptyIsNil(s.Vars), slices.Clone(emptyIsNil(s.Procs))
	for i, p := range s.Procs {
		s.Procs[i].Params = emptyIsNil(p.Params)
	}
	return s
}

func emptyIsNil[T any](list []T) []T {
	if len(list) == 0 {
		return nil
	}
	return list
}

func same(a, b api.Sym) bool { return reflect.DeepEqual(plainly(a), plainly(b)) }

// reads asks for the symbols that bytes are read as.
func reads(t *testing.T, b []byte, want api.Sym) {
	t.Helper()
	if s, at, e := Decode(b); !same(s, want) || at != 0 || e != api.OK {
		t.Errorf("Decode(%.99x) = %v, %d, %v; want %v", b, s, at, e, want)
	}
}

// refuses asks for the place and the error with which bytes are refused.
func refuses(t *testing.T, b []byte, at int, e api.Errno) {
	t.Helper()
	if s, gotAt, gotE := Decode(b); !same(s, api.Sym{}) || gotAt != at || gotE != e {
		t.Errorf("Decode(%.99x) = %v, %d, %v; want %d, %v", b, s, gotAt, gotE, at, e)
	}
}

// writes asks for the bytes of right symbols.
func writes(t *testing.T, s api.Sym) []byte {
	t.Helper()
	b, e := Encode(s)
	if e != api.OK || !Right(s) {
		t.Fatalf("Encode: %v, Right: %v, of %v", e, Right(s), s)
	}
	return b
}

// keyOf asks for the key of right symbols.
func keyOf(t *testing.T, s api.Sym) uint32 {
	t.Helper()
	key, e := Key(s)
	if e != api.OK {
		t.Fatalf("Key: %v, of %v", e, s)
	}
	return key
}
