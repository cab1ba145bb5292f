package link

import (
	"encoding/binary"
	"slices"
	"testing"

	"carrel/api"
	"carrel/check"
	"carrel/gen"
	"carrel/obj"
	"carrel/sym"
)

// one is an object with a name, which imports others (with the Key 0), and halts.
func one(name string, imports ...string) api.Object {
	o := api.Object{Name: name, Code: []uint32{0x400F0000}}
	for _, i := range imports {
		o.Imports = append(o.Imports, api.Import{Name: i})
	}
	return o
}

// examples are the chapter's.
func examples() (api.Object, api.Object) {
	a := api.Object{Name: "A", Code: []uint32{0x400F0003}}
	b := api.Object{Name: "B", Imports: []api.Import{{Name: "A"}}, Code: []uint32{0xF7000000, 0x400F0000}, Init: 1, Fixes: []api.Fix{{At: 0, Kind: api.FixProc, M: 0, N: 0}}}
	return a, b
}

// library and user are objects with something of everything.
func library() api.Object {
	return api.Object{
		Name: "Lib", Key: 0x01020304,
		Code:    []uint32{0xC700000F, 0x63000000, 0x43360000, 0xE7000000, 0x40000001, 0xC700000F},
		Procs:   []int{0, 1, 5},
		Names:   []string{"Own", "Shown", "Last"},
		Exports: []bool{false, true, true},
		Init:    4,
		Vars:    []int{1, 8, 5, 4},
		Shown:   []int{1, 3},
		Strings: []string{"abc", ""},
		Fixes:   []api.Fix{{At: 1, Kind: api.FixVar, M: -1, N: 2}, {At: 3, Kind: api.FixProc, M: -1, N: 0}},
	}
}

func user() api.Object {
	return api.Object{
		Name: "User", Imports: []api.Import{{Name: "Lib", Key: 0x01020304}},
		Code: []uint32{
			0xFFFFFFFF,             // 0: to Lib.Last
			0xE1FFFFFF,             // 1: to its own T
			0x6000FFFF, 0x4006FFFF, // 2: Lib's second variable that is shown
			0x6F00FFFF, 0x4FF61234, // 4: the string "text"
			0x6A000000, 0x4AA60000, // 6: the descriptor of 12
			0x62000000, 0x42260000, // 8: its own T
			0x6B000000, 0x4BB60000, // 10: Lib.Shown
			0x65000000, 0x45560000, // 12: its own variable
			0xC700000F,
		},
		Procs: []int{14}, Names: []string{"T"}, Exports: []bool{false},
		Vars: []int{16384}, Strings: []string{"", "text", "tex"},
		Descs: []api.Desc{{Type: 9, Size: 16, Tags: []int{9}}, {Type: 12, Size: 20, Tags: []int{9, 12}}, {Type: 13, Size: 20, Tags: []int{9, 12, 199, 13}}, {Type: 199, Size: 0, Tags: []int{199}}},
		Fixes: []api.Fix{
			{At: 0, Kind: api.FixProc, M: 0, N: 1}, {At: 1, Kind: api.FixProc, M: -1, N: 0}, {At: 2, Kind: api.FixVar, M: 0, N: 1}, {At: 4, Kind: api.FixStr, M: -1, N: 1},
			{At: 6, Kind: api.FixDesc, M: -1, N: 12}, {At: 8, Kind: api.FixEntry, M: -1, N: 0}, {At: 10, Kind: api.FixEntry, M: 0, N: 0}, {At: 12, Kind: api.FixVar, M: -1, N: 0},
		},
	}
}

// right asks of objects that each of them is one.
func right(t testing.TB, l ...api.Object) []api.Object {
	t.Helper()
	for i, o := range l {
		if !obj.Right(o) {
			t.Fatalf("object %d, %s, is not right", i, o.Name)
		}
	}
	return l
}

func boots(t testing.TB, l ...api.Object) api.Image {
	t.Helper()
	i, name, e := Boot(right(t, l...))
	if e != api.OK || name != "" || i.Entry != 32 {
		t.Fatalf("%q, %v, entry %d", name, e, i.Entry)
	}
	return i
}

// progs are the words of the file that Prog answers.
func progs(t testing.TB, l ...api.Object) []uint32 {
	t.Helper()
	b, name, e := Prog(right(t, l...))
	if e != api.OK || name != "" || len(b)%4 != 0 {
		t.Fatalf("%q, %v, %d bytes", name, e, len(b))
	}
	return wordsIn(b)
}

func wordsIn(b []byte) []uint32 {
	var l []uint32
	for ; len(b) >= 4; b = b[4:] {
		l = append(l, binary.LittleEndian.Uint32(b))
	}
	return l
}

// sameWords tells the first words that differ.
func sameWords(t testing.TB, what string, got, want []uint32) {
	t.Helper()
	for i := range min(len(got), len(want)) {
		if got[i] != want[i] {
			t.Errorf("%s: word %d (at %XH) is %08X, want %08X", what, i, 4*i, got[i], want[i])
			return
		}
	}
	if len(got) != len(want) {
		t.Errorf("%s: %d words, want %d", what, len(got), len(want))
	}
}

// refused asks of Boot and Prog for an error, and for nothing beside it but a name.
func refused(t testing.TB, what string, l []api.Object, name string, want api.Errno) {
	t.Helper()
	i, n, e := Boot(l)
	if e != want || n != name || i.Words != nil || i.Entry != 0 {
		t.Errorf("%s: Boot: %d words, %d, %q, %v; want %q, %v", what, len(i.Words), i.Entry, n, e, name, want)
	}
	b, n, e := Prog(l)
	if e != want || n != name || b != nil {
		t.Errorf("%s: Prog: %d bytes, %q, %v; want %q, %v", what, len(b), n, e, name, want)
	}
}

// misfits asks it of Order, too.
func misfits(t testing.TB, what string, l []api.Object, name string, want api.Errno) {
	t.Helper()
	order, n, e := Order(l)
	if e != want || n != name || order != nil {
		t.Errorf("%s: Order: %v, %q, %v; want %q, %v", what, order, n, e, name, want)
	}
	refused(t, what, l, name, want)
}

// modules are those of sources, each of which may import those ahead of it.
func modules(t testing.TB, sources ...string) []api.Mod {
	t.Helper()
	var mods []api.Mod
	var shown []api.Sym
	for _, s := range sources {
		m, at, e := check.Source(s, shown)
		if e != api.OK {
			t.Fatalf("%v at %q", e, s[at:])
		}
		for i := range m.Imports {
			key, e := sym.Key(m.Syms[i])
			if e != api.OK {
				t.Fatal(e)
			}
			m.Imports[i].Key = key
		}
		x, e := sym.Of(m)
		if e != api.OK {
			t.Fatal(e)
		}
		mods, shown = append(mods, m), append(shown, x)
	}
	return mods
}

// compiled are modules' objects.
func compiled(t testing.TB, mods []api.Mod) []api.Object {
	t.Helper()
	var l []api.Object
	for _, m := range mods {
		o, e := gen.Module(m)
		if e != api.OK {
			t.Fatalf("%s: %v", m.Name, e)
		}
		l = append(l, o)
	}
	return l
}

// copied is an object that shares nothing with another one.
func copied(o api.Object) api.Object {
	o.Imports, o.Code = slices.Clone(o.Imports), slices.Clone(o.Code)
	o.Procs, o.Names, o.Exports = slices.Clone(o.Procs), slices.Clone(o.Names), slices.Clone(o.Exports)
	o.Vars, o.Shown, o.Strings = slices.Clone(o.Vars), slices.Clone(o.Shown), slices.Clone(o.Strings)
	o.Descs, o.Fixes = slices.Clone(o.Descs), slices.Clone(o.Fixes)
	for i := range o.Descs {
		o.Descs[i].Tags = slices.Clone(o.Descs[i].Tags)
	}
	return o
}

// many are n of a thing.
func many[T any](n int, x T) []T { return slices.Repeat([]T{x}, n) }
