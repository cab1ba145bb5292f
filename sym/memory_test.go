package sym

import (
	"bytes"
	"fmt"
	"testing"

	"carrel/api"
	"carrel/types"
)

// spoil writes into all memory that symbols have.
func spoil(s api.Sym) {
	for i := range s.Procs {
		for k := range s.Procs[i].Params {
			s.Procs[i].Params[k] = api.SymVar{Name: "spoilt", Form: 99, Len: 99}
		}
	}
	for i := range s.Consts {
		s.Consts[i] = api.Const{Name: "spoilt", Type: 99}
	}
	for i := range s.Vars {
		s.Vars[i] = api.SymVar{Name: "spoilt", Form: 99}
	}
	clear(s.Procs)
}

// fillRoom writes into all spare room of symbols' lists.
func fillRoom(s api.Sym) {
	for i := range s.Procs {
		p := s.Procs[i].Params
		room := p[len(p):cap(p)]
		for k := range room {
			room[k] = api.SymVar{Form: 99}
		}
	}
	consts, vars, procs := s.Consts[len(s.Consts):cap(s.Consts)], s.Vars[len(s.Vars):cap(s.Vars)], s.Procs[len(s.Procs):cap(s.Procs)]
	for i := range consts {
		consts[i].Type = 99
	}
	for i := range vars {
		vars[i].Form = 99
	}
	for i := range procs {
		procs[i].Result = 99
	}
}

func TestEncodeAnswersNewMemory(t *testing.T) { // P13.4
	s := sample()
	first, second := writes(t, s), writes(t, s)
	if keyOf(t, s); !same(s, sample()) {
		t.Errorf("written into: %v", s)
	}
	spoil(s)
	want := whole(sampleParts()...)
	if !bytes.Equal(first, want) {
		t.Errorf("shared: %x", first)
	}
	clear(first[:cap(first)])
	if !bytes.Equal(second, want) {
		t.Errorf("two answers share: %x", second)
	}
	least := writes(t, api.Sym{Name: "A"})
	clear(least[:cap(least)])
	if b := writes(t, api.Sym{Name: "A"}); string(b) != "CRS1\x01A\x00\x00\x00" {
		t.Errorf("%x", b)
	}
}

func TestDecodeAnswersNewMemory(t *testing.T) { // P13.4, R3
	b := whole(sampleParts()...)
	kept := bytes.Clone(b)
	first, _, _ := Decode(b)
	second, _, _ := Decode(b)
	if !bytes.Equal(b, kept) {
		t.Error("written into")
	}
	clear(b)
	if !same(first, sample()) {
		t.Errorf("shares with the bytes: %v", first)
	}
	fillRoom(first)
	if !same(first, sample()) {
		t.Errorf("lists of an answer share: %v", first)
	}
	spoil(first)
	if !same(second, sample()) {
		t.Errorf("two answers share: %v", second)
	}
}

func TestOfAnswersNewMemory(t *testing.T) { // P13.4, R3
	shared := append(make([]api.Var, 0, 20), api.Var{Name: "a", Type: api.Char}, api.Var{Name: "b", Type: api.Set, Ref: true})
	m := api.Mod{
		Name: "M", Types: types.Basic(),
		Consts: append(make([]api.Const, 0, 9), api.Const{Name: "c", Type: api.Char, N: 1, Export: true}),
		Vars:   append(make([]api.Var, 0, 9), api.Var{Name: "v", Type: api.Set, Export: true}),
		Procs:  append(make([]api.Proc, 0, 9), api.Proc{Name: "P", Export: true, Params: 2, Vars: shared}, api.Proc{Name: "Q", Export: true, Params: 2, Vars: shared}),
	}
	params := func() []api.SymVar { return []api.SymVar{{Form: api.Char}, {Form: api.Set, Ref: true}} }
	want := api.Sym{
		Name: "M", Consts: []api.Const{{Name: "c", Type: api.Char, N: 1, Export: true}}, Vars: []api.SymVar{{Name: "v", Form: api.Set}},
		Procs: []api.SymProc{{Name: "P", Params: params()}, {Name: "Q", Params: params()}},
	}
	was, room := fmt.Sprint(m), fmt.Sprint(m.Consts[:9], m.Vars[:9], m.Procs[:9], shared[:20])
	s, e := Of(m)
	if !same(s, want) || e != api.OK {
		t.Fatalf("%v, %v", s, e)
	}
	fillRoom(s)
	if !same(s, want) {
		t.Errorf("lists of an answer share: %v", s)
	}
	s.Procs[0].Params[0].Form = 99
	if s.Procs[1].Params[0].Form != api.Char {
		t.Error("two lists of parameters share")
	}
	spoil(s)
	if fmt.Sprint(m) != was || fmt.Sprint(m.Consts[:9], m.Vars[:9], m.Procs[:9], shared[:20]) != room {
		t.Error("written into, or shared")
	}
	second, _ := Of(m)
	m.Consts[0].N, m.Vars[0].Type, m.Types[api.Set].Form, shared[0].Type, m.Procs[0].Name = 9, api.Char, api.Byte, api.Byte, "Z"
	if !same(second, want) {
		t.Errorf("shares with the module: %v", second)
	}
}

func TestSpareRoomIsNotWrittenInto(t *testing.T) { // R3
	room := append(whole(sampleParts()...), 1, 2, 3, 4)
	kept := bytes.Clone(room)
	reads(t, room[:len(room)-4], sample())
	if !bytes.Equal(room, kept) {
		t.Error("Decode wrote into spare room")
	}
	s := sample()
	consts, vars := append(s.Consts, api.Const{Name: "kept"}), append(s.Vars, api.SymVar{Name: "kept"})
	s.Consts, s.Vars = consts[:len(s.Consts)], vars[:len(s.Vars)]
	writes(t, s)
	if consts[len(s.Consts)].Name != "kept" || vars[len(s.Vars)].Name != "kept" {
		t.Error("Encode wrote into spare room")
	}
}
