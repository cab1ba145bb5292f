package link

import (
	"slices"
	"strings"
	"testing"

	"carrel/api"
)

func TestBootExamples(t *testing.T) { // P16.2
	a, b := examples()
	sameWords(t, "a", boots(t, a).Words, []uint32{0, 0, 0x34, 0x10034, 0, 0, 0, 0, 0x6E00000F, 0x4EE6F000, 0xF7000001, 0x400F0000, 0x400F0003})
	refused(t, "b, a", []api.Object{b, a}, "B", api.ErrLinkFix)
}

func TestBoot(t *testing.T) { // P16.2: something of everything, reckoned by hand
	want := []uint32{
		0, 0, 0x4108, 0x14108, 0, 0, 0, 0,
		0x6E00000F, 0x4EE6F000, 0xF7000006, 0xF700000F, 0x400F0000,
		// 34H: Lib
		0xC700000F, 0x63000000, 0x43360058, 0xE7FFFFFC, 0x40000001, 0xC700000F,
		0, 0, 0, 0, 0, 0, // its variables: 4CH, 50H, 58H, 60H
		0x00636261, 0,
		// 6CH: User
		0xFFFFFFF6, 0xE100000C, 0x60000000, 0x40060060, 0x6F000000, 0x4FF640AC, 0x6A000000, 0x4AA640CC,
		0x62000000, 0x422600A4, 0x6B000000, 0x4BB60038, 0x65000000, 0x455600A8, 0xC700000F,
	}
	want = append(want, make([]uint32, 4096)...) // A8H: its variable
	want = append(want,
		0, 0x74786574, 0, 0x00786574, // 40A8H: its strings
		16, 0x40B8, 0, 0, 0,
		20, 0x40B8, 0x40CC, 0, 0,
		20, 0x40B8, 0x40CC, 0x40F4, 0x40E0,
		0, 0x40F4, 0, 0, 0)
	sameWords(t, "user, library", boots(t, user(), library()).Words, want)
	sameWords(t, "library, user", boots(t, library(), user()).Words, want)
}

func TestAddresses(t *testing.T) { // P16.2: each from the next multiple of 4 on
	for _, x := range []struct {
		what   string
		change func(o *api.Object)
		words  uint32 // more than that of the code
	}{
		{"nothing", func(*api.Object) {}, 0},
		{"1 byte", func(o *api.Object) { o.Vars = []int{1} }, 1},
		{"4 bytes", func(o *api.Object) { o.Vars = []int{4} }, 1},
		{"5 bytes", func(o *api.Object) { o.Vars = []int{5} }, 2},
		{"1 and 1 byte", func(o *api.Object) { o.Vars = []int{1, 1} }, 2},
		{"an empty string", func(o *api.Object) { o.Strings = []string{""} }, 1},
		{"3 letters", func(o *api.Object) { o.Strings = []string{"abc"} }, 1},
		{"4 letters", func(o *api.Object) { o.Strings = []string{"abcd"} }, 2},
		{"200 letters", func(o *api.Object) { o.Strings = []string{strings.Repeat("x", 200)} }, 51},
		{"2 strings", func(o *api.Object) { o.Strings = []string{"a", "b"} }, 2},
		{"the same string twice", func(o *api.Object) { o.Strings = []string{"a", "a"} }, 2},
		{"a descriptor", func(o *api.Object) { o.Descs = []api.Desc{{Type: 8, Tags: []int{8}}} }, 5},
		{"2 descriptors", func(o *api.Object) { o.Descs = []api.Desc{{Type: 8, Tags: []int{8}}, {Type: 9, Tags: []int{9}}} }, 10},
		{"more code", func(o *api.Object) { o.Code = append(o.Code, 0, 0) }, 2},
	} {
		o := one("A")
		x.change(&o)
		words := boots(t, o).Words
		if heap := 4 * (13 + x.words); words[2] != heap || words[3] != heap+0x10000 || uint32(len(words)) != heap/4 {
			t.Errorf("%s: heap %X to %X, %d words", x.what, words[2], words[3], len(words))
		}
		if got := progs(t, o); got[1] != 28+x.words || uint32(len(got)) != 31+x.words {
			t.Errorf("%s: %d words are loaded, of %d", x.what, got[1], len(got))
		}
	}
}

func TestStringsBytes(t *testing.T) { // P16.2: any bytes, the lowest of a word first, a 0 behind, noughts fill up
	o := one("A")
	o.Strings = []string{"\xff\x00\x80\x01\xfe", "\x00\x00", ""}
	sameWords(t, "bytes", boots(t, o).Words[13:], []uint32{0x018000FF, 0x000000FE, 0, 0})
}

func TestDescriptorsOfEachModule(t *testing.T) { // P16.2: two modules may have the same types, variables and strings
	a, b := one("A"), one("B", "A")
	a.Descs = []api.Desc{{Type: 8, Size: 4, Tags: []int{8}}, {Type: 10, Size: 8, Tags: []int{8, 10}}}
	b.Descs = []api.Desc{{Type: 8, Size: 12, Tags: []int{8}}, {Type: 10, Size: 16, Tags: []int{10}}}
	sameWords(t, "descriptors", boots(t, b, a).Words[8:], []uint32{
		0x6E00000F, 0x4EE6F000, 0xF7000002, 0xF700000C, 0x400F0000,
		0x400F0000, 4, 0x38, 0, 0, 0, 8, 0x38, 0x4C, 0, 0,
		0x400F0000, 12, 0x64, 0, 0, 0, 16, 0x78, 0, 0, 0,
	})
}

// trapper is an object with a procedure that traps may go to.
func trapper(name string, exported bool, procedure string, imports ...string) api.Object {
	o := one(name, imports...)
	o.Code = append(o.Code, 0xC700000F)
	o.Procs, o.Names, o.Exports = []int{0, 1}, []string{"First", procedure}, []bool{true, exported}
	return o
}

func TestTrapCode(t *testing.T) { // P16.2
	trap := trapper("T", true, "Trap")
	sameWords(t, "alone", boots(t, trap).Words, []uint32{
		0, 0, 0x4C, 0x1004C, 0x30, 0, 0, 0, 0x6E00000F, 0x4EE6F000, 0xF7000006, 0x400F0000,
		0x6E00000F, 0x4EE6F000, 0x40000000, 0xA000001C, 0xE7000001, 0x400F0000, 0xC700000F,
	})
	last := trapper("T", true, "Trap", "A")
	for _, l := range [][]api.Object{{last, one("A")}, {one("A"), last}} {
		sameWords(t, "behind another", boots(t, l...).Words, []uint32{
			0, 0, 0x54, 0x10054, 0x34, 0, 0, 0, 0x6E00000F, 0x4EE6F000, 0xF7000007, 0xF7000007, 0x400F0000,
			0x6E00000F, 0x4EE6F000, 0x40000000, 0xA000001C, 0xE7000002, 0x400F0000, 0x400F0000, 0xC700000F,
		})
	}
	for _, x := range []struct {
		what string
		l    []api.Object
	}{
		{"not exported", []api.Object{trapper("T", false, "Trap")}},
		{"another name", []api.Object{trapper("T", true, "trap")}},
		{"a longer name", []api.Object{trapper("T", true, "Traps")}},
		{"not the last of the list", []api.Object{trap, one("A")}},
		{"the last of the list, but not of the order", []api.Object{one("A", "T"), trap}},
		{"a module's name", []api.Object{one("Trap")}},
	} {
		words := boots(t, x.l...).Words
		code := 8 + 2 + len(x.l) + 1
		if words[4] != 0 || words[2] != uint32(4*(code+lengths(x.l))) {
			t.Errorf("%s: vector %X, heap %X", x.what, words[4], words[2])
		}
	}
	if got := progs(t, trap); got[1] != 29 {
		t.Errorf("a program has %d words, and no trap code", got[1])
	}
}

// lengths is how many words all objects' code has.
func lengths(l []api.Object) int {
	n := 0
	for _, o := range l {
		n += len(o.Code)
	}
	return n
}

func TestWordsThatFixesTake(t *testing.T) { // P16.2, ErrLinkFix: the words are not such
	branches := map[uint32]uint32{}
	for condition := range uint32(16) {
		branches[0xE0000000|condition<<24] = 0xE0FFFFFF | condition<<24
		branches[0xF07FFFFF|condition<<24] = 0xF0FFFFFF | condition<<24
	}
	for w, want := range branches {
		fixes(t, api.FixProc, []uint32{w, 0x12345678}, []uint32{want, 0x12345678})
	}
	for r := range uint32(16) {
		a, ab := r<<24, r<<24|r<<20
		good := []uint32{0x6000FFFF | a, 0x40068001 | ab, 0xFFFFFFFF}
		for _, kind := range []int{api.FixVar, api.FixStr, api.FixDesc, api.FixEntry} {
			fixes(t, kind, good, nil)
		}
		for _, next := range []uint32{0x40060000 | a ^ 1<<24 | r<<20, 0x40060000 | a | (r^8)<<20} {
			wrong(t, api.FixEntry, []uint32{good[0], next})
		}
	}
	for _, w := range []uint32{0, 0x40000000, 0x50000000, 0x61180000, 0x80000000, 0xA0000000, 0xB0000000, 0xC700000F, 0xD700000F, 0xD7000000, 0xC7000010, 0x6000FFFF, 0x40060000, 0x400F0000} {
		wrong(t, api.FixProc, []uint32{w, 0x40060000})
	}
	for _, kind := range []int{api.FixVar, api.FixStr, api.FixDesc, api.FixEntry} {
		for _, w := range []uint32{0, 0x20000000, 0x40000000, 0x50000000, 0x70000000, 0x60100000, 0x60080000, 0x60090000, 0x600A0000, 0x60010000, 0xA0000000, 0xE7000000} {
			wrong(t, kind, []uint32{w, 0x40060000})
		}
		for _, next := range []uint32{0, 0x00060000, 0x50060000, 0x60060000, 0x70060000, 0x40050000, 0x40070000, 0x40080000, 0x40000000, 0x80060000, 0xC0060000, 0x41060000, 0x40160000, 0x41160000, 0x60000000} {
			wrong(t, kind, []uint32{0x60000000, next})
		}
	}
}

// fixed is an object with a fix of some kind at its first word.
func fixed(kind int, code []uint32) api.Object {
	o := api.Object{Name: "A", Code: code, Procs: []int{0}, Names: []string{"P"}, Exports: []bool{false}, Vars: []int{4}, Strings: []string{"s"}, Descs: []api.Desc{{Type: 8, Tags: []int{8}}}}
	n := 0
	if kind == api.FixDesc {
		n = 8
	}
	o.Fixes = []api.Fix{{At: 0, Kind: kind, M: -1, N: n}}
	return o
}

// fixes asks what becomes of code; if nothing is wanted, then what has the address.
func fixes(t *testing.T, kind int, code, want []uint32) {
	t.Helper()
	place := 4 * uint32(12+len(code)) // of what stands behind the code
	address := map[int]uint32{api.FixEntry: 48, api.FixVar: place, api.FixStr: place + 4, api.FixDesc: place + 8}[kind]
	if want == nil {
		want = []uint32{code[0] & 0xFFFF0000, code[1]&0xFFFF0000 | address, code[2]}
	}
	sameWords(t, "code", boots(t, fixed(kind, code)).Words[12:][:len(code)], want)
}

func wrong(t *testing.T, kind int, code []uint32) {
	t.Helper()
	refused(t, "", right(t, fixed(kind, code)), "A", api.ErrLinkFix)
}

func TestThingsThatFixesName(t *testing.T) { // P16.2, ErrLinkFix: that is not there
	lib := library() // shows two procedures and two variables
	for _, x := range []struct{ kind, there int }{{api.FixProc, 2}, {api.FixEntry, 2}, {api.FixVar, 2}} {
		for _, n := range []int{0, x.there - 1, x.there, x.there + 1, 99} {
			o := fixed(x.kind, []uint32{0x60000000, 0x40060000})
			if x.kind == api.FixProc {
				o.Code[0] = 0xF7000000
			}
			o.Imports = []api.Import{{Name: "Lib", Key: 0x01020304}}
			o.Fixes[0].M, o.Fixes[0].N = 0, n
			if n < x.there {
				boots(t, lib, o)
				progs(t, o, lib)
			} else {
				refused(t, "", right(t, lib, o), "A", api.ErrLinkFix)
				refused(t, "", right(t, o, lib), "A", api.ErrLinkFix)
			}
		}
	}
}

func TestFixOfTheRightImport(t *testing.T) { // P16.2: the object that its M-th Import names, wherever that stands
	var l []api.Object
	for i, name := range []string{"C", "B", "A"} { // 5, 4 and 3 words
		o := one(name)
		o.Code = many(5-i, uint32(0x400F0000+i))
		o.Procs, o.Names, o.Exports = []int{0, 4 - i}, []string{"X", "Y"}, []bool{false, true}
		l = append(l, o)
	}
	o := one("D", "A", "B", "C")
	o.Code = []uint32{0xF7000000, 0xF7000000, 0xF7000000}
	o.Fixes = []api.Fix{{At: 0, Kind: api.FixProc, M: 0}, {At: 1, Kind: api.FixProc, M: 1}, {At: 2, Kind: api.FixProc, M: 2}}
	back := func(n uint32) uint32 { return 0xF7000000 | -n&0xFFFFFF }
	permuted(append(l, o), func(l []api.Object) {
		words := boots(t, l...).Words
		at := map[string]uint32{} // where each one's code begins
		next := uint32(8 + 2 + 4 + 1)
		order, _, _ := Order(l)
		for _, place := range order {
			at[l[place].Name] = next
			next += uint32(len(l[place].Code))
		}
		d := at["D"]
		sameWords(t, "branches", words[d:], []uint32{back(d + 1 - at["A"] - 2), back(d + 2 - at["B"] - 3), back(d + 3 - at["C"] - 4)})
	})
}

func TestWhichFixIsTold(t *testing.T) { // P16.2: in the order of the list and of its Fixes
	a, b := fixed(api.FixProc, []uint32{0, 0}), fixed(api.FixVar, []uint32{0, 0})
	b.Name = "B"
	a.Imports = []api.Import{{Name: "B"}}
	refused(t, "a, b", right(t, a, b), "A", api.ErrLinkFix) // though B begins first
	refused(t, "b, a", right(t, b, a), "B", api.ErrLinkFix)
	good := fixed(api.FixProc, []uint32{0xF7000000, 0x400F0000})
	refused(t, "the second object", right(t, good, b), "B", api.ErrLinkFix)
	good.Fixes = append(good.Fixes, api.Fix{At: 1, Kind: api.FixProc, M: -1})
	refused(t, "the second fix", right(t, good), "A", api.ErrLinkFix)
}

func TestFixesBesideOneAnother(t *testing.T) { // P16.2
	o := fixed(api.FixVar, []uint32{0x60000000, 0x40060000, 0xF7000000, 0x60000000, 0x40060000, 0x61000000, 0x41160000})
	o.Fixes = append(o.Fixes, api.Fix{At: 2, Kind: api.FixProc, M: -1}, api.Fix{At: 3, Kind: api.FixStr, M: -1}, api.Fix{At: 5, Kind: api.FixEntry, M: -1})
	sameWords(t, "in a row", boots(t, o).Words[12:][:7], []uint32{0x60000000, 0x4006004C, 0xF7FFFFFD, 0x60000000, 0x40060050, 0x61000000, 0x41160030})
	o.Fixes = []api.Fix{{At: 0, Kind: api.FixVar, M: -1}, {At: 1, Kind: api.FixVar, M: -1}}
	refused(t, "one within another", right(t, o), "A", api.ErrLinkFix)
}

func TestGreatAddresses(t *testing.T) { // P16.2: both halves of addresses, and long branches
	o := one("A")
	o.Vars = append(many(10, 16384), 1)
	o.Code = append(many(20000, uint32(0x400F0000)), 0xF7000000, 0x6C00FFFF, 0x4CC6FFFF, 0xE1000000)
	o.Procs, o.Names, o.Exports = []int{0, 20003}, []string{"P", "Q"}, []bool{false, false}
	o.Fixes = []api.Fix{{At: 20000, Kind: api.FixProc, M: -1, N: 0}, {At: 20001, Kind: api.FixVar, M: -1, N: 10}, {At: 20003, Kind: api.FixProc, M: -1, N: 1}}
	at := uint32(48 + 4*20004 + 10*16384)
	words := boots(t, o).Words
	sameWords(t, "fixed", words[12+20000:][:4], []uint32{0xF7FFB1DF, 0x6C000000 | at>>16, 0x4CC60000 | at&0xFFFF, 0xE1FFFFFF})
	if words[2] != at+4 || words[3] != at+4+0x10000 {
		t.Errorf("heap %X to %X", words[2], words[3])
	}
}

func TestBootLong(t *testing.T) { // P16.2: the heap's end is at most ProgBase
	o := one("A")
	o.Vars = append(many(27, 16384), 16332) // with 52 bytes of start and code 70000H bytes
	if words := boots(t, o).Words; words[2] != 0x70000 || words[3] != 0x80000 || len(words) != 0x70000/4 {
		t.Errorf("heap %X to %X, %d words", words[2], words[3], len(words))
	}
	for what, change := range map[string]func(o *api.Object){
		"a byte more":       func(o *api.Object) { o.Vars[27]++ },
		"a variable more":   func(o *api.Object) { o.Vars = append(o.Vars, 1) },
		"a string more":     func(o *api.Object) { o.Strings = []string{""} },
		"a descriptor more": func(o *api.Object) { o.Descs = []api.Desc{{Type: 8, Tags: []int{8}}} },
		"a word more":       func(o *api.Object) { o.Code = append(o.Code, 0) },
		"code for traps": func(o *api.Object) {
			o.Procs, o.Names, o.Exports = []int{0}, []string{"Trap"}, []bool{true}
		},
	} {
		other := copied(o)
		change(&other)
		refused(t, what, right(t, other), "", api.ErrLinkLong)
	}
	refused(t, "a module more", right(t, o, one("B")), "", api.ErrLinkLong)
}

func TestGreatestObjects(t *testing.T) { // P16.2, P16.3, R1: as much as objects may have
	code := slices.Repeat([]uint32{0x60000000, 0x40060000}, 1<<15)
	var l []api.Object
	for i := range 16 {
		o := one(string(rune('A' + i)))
		o.Code, o.Vars = code, many(200, 16384)
		o.Procs, o.Names, o.Exports = []int{65535}, []string{"Trap"}, []bool{true}
		for at := 0; at < len(code); at += 2 {
			f := api.Fix{At: at, Kind: api.FixEntry, M: -1}
			if i > 0 {
				f.M = at / 2 % i
			}
			o.Fixes = append(o.Fixes, f)
		}
		for k := range i {
			o.Imports = append(o.Imports, api.Import{Name: string(rune('A' + k))})
		}
		l = append(l, o)
	}
	refused(t, "16", right(t, l...), "", api.ErrLinkLong)
	l[15].Fixes[len(l[15].Fixes)-1].N = 1
	refused(t, "its last fix", right(t, l...), "P", api.ErrLinkFix)
	l[0].Fixes = nil
	l[15].Fixes[len(l[15].Fixes)-1].N = 0
	for i := range l {
		l[i].Vars = nil
	}
	l[15].Imports, l[15].Fixes = l[15].Imports[:1], []api.Fix{{At: 0, Kind: api.FixEntry, M: 0}}
	refused(t, "only code", right(t, l...), "", api.ErrLinkLong)
	alone := boots(t, l[0])
	if len(alone.Words) != 8+2+1+1+5+65536 {
		t.Errorf("%d words", len(alone.Words))
	}
}
