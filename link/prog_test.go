package link

import (
	"testing"

	"carrel/api"
)

func TestProgExample(t *testing.T) { // P16.3
	a, b := examples()
	words := progs(t, a)
	want := []uint32{
		0x31505243, 28, 0,
		0x4EE90010, 0xAFE00000, 0x40000000, 0x81000008, 0xA1E00004, 0x8100000C, 0xA1E00008, 0x8100001C, 0xA1E0000C, 0xA000001C,
		0x61000008, 0x41160070, 0xA1000008, 0x61000009, 0x41160070, 0xA100000C,
		0xF700000A,
		0x40000000, 0x81E00004, 0xA1000008, 0x81E00008, 0xA100000C, 0x81E0000C, 0xA100001C, 0x8FE00000, 0x4EE80010, 0xC700000F,
		0x400F0003,
	}
	for _, w := range want[3:] {
		want[2] += w
	}
	sameWords(t, "a", words, want)
	refused(t, "b, a", []api.Object{b, a}, "B", api.ErrLinkFix)
}

func TestProg(t *testing.T) { // P16.3: something of everything, reckoned by hand
	want := []uint32{
		0x31505243, 28 + 0x40D4/4, 0,
		0x4EE90010, 0xAFE00000, 0x40000000, 0x81000008, 0xA1E00004, 0x8100000C, 0xA1E00008, 0x8100001C, 0xA1E0000C, 0xA000001C,
		0x61000008, 0x41164144, 0xA1000008, 0x61000009, 0x41164144, 0xA100000C,
		0xF700000F, 0xF7000018,
		0x40000000, 0x81E00004, 0xA1000008, 0x81E00008, 0xA100000C, 0x81E0000C, 0xA100001C, 0x8FE00000, 0x4EE80010, 0xC700000F,
		// 80070H: Lib
		0xC700000F, 0x63000008, 0x43360094, 0xE7FFFFFC, 0x40000001, 0xC700000F,
		0, 0, 0, 0, 0, 0, // its variables: 80088H, 8008CH, 80094H, 8009CH
		0x00636261, 0,
		// 800A8H: User
		0xFFFFFFF6, 0xE100000C, 0x60000008, 0x4006009C, 0x6F000008, 0x4FF640E8, 0x6A000008, 0x4AA64108,
		0x62000008, 0x422600E0, 0x6B000008, 0x4BB60074, 0x65000008, 0x455600E4, 0xC700000F,
	}
	want = append(want, make([]uint32, 4096)...) // 800E4H: its variable
	want = append(want,
		0, 0x74786574, 0, 0x00786574, // 840E4H: its strings
		16, 0x840F4, 0, 0, 0,
		20, 0x840F4, 0x84108, 0, 0,
		20, 0x840F4, 0x84108, 0x84130, 0x8411C,
		0, 0x84130, 0, 0, 0)
	for _, w := range want[3:] {
		want[2] += w
	}
	sameWords(t, "user, library", progs(t, user(), library()), want)
	sameWords(t, "library, user", progs(t, library(), user()), want)
}

func TestProgFile(t *testing.T) { // P16.3: of each word the lowest byte first
	a, _ := examples()
	b, _, e := Prog([]api.Object{a})
	if e != api.OK || len(b) != 12+4*28 || string(b[:8]) != "CRP1\x1c\x00\x00\x00" || string(b[12:20]) != "\x10\x00\xe9\x4e\x00\x00\xe0\xaf" || string(b[len(b)-4:]) != "\x03\x00\x0f\x40" {
		t.Errorf("%x, %v", b, e)
	}
}

func TestProgLong(t *testing.T) { // P16.3: the file has at most MaxFile bytes (so that the heap's end is below ProgEnd)
	o := one("A")
	o.Vars = append(many(15, 16384), 10116) // with 12 bytes ahead, and 112 of start and code, 256000
	if words := progs(t, o); len(words) != 64000 || words[1] != 63997 || words[3+10] != 0x61000008|63997*4>>16 || words[3+11] != 0x41160000|63997*4&0xFFFF {
		t.Errorf("%d words, %d are loaded, heap %08X %08X", len(words), words[1], words[13], words[14])
	}
	for what, change := range map[string]func(o *api.Object){
		"a byte more":       func(o *api.Object) { o.Vars[15]++ },
		"a variable more":   func(o *api.Object) { o.Vars = append(o.Vars, 1) },
		"a string more":     func(o *api.Object) { o.Strings = []string{""} },
		"a descriptor more": func(o *api.Object) { o.Descs = []api.Desc{{Type: 8, Tags: []int{8}}} },
		"a word more":       func(o *api.Object) { o.Code = append(o.Code, 0) },
		"much more":         func(o *api.Object) { o.Vars = append(o.Vars, 16384, 16384, 16384, 16384, 16384) },
	} {
		other := copied(o)
		change(&other)
		b, name, e := Prog(right(t, other))
		if e != api.ErrLinkLong || name != "" || b != nil {
			t.Errorf("%s: %d bytes, %q, %v", what, len(b), name, e)
		}
		boots(t, other)
	}
	if b, name, e := Prog(right(t, o, one("B"))); e != api.ErrLinkLong || name != "" || b != nil {
		t.Errorf("a module more: %d bytes, %q, %v", len(b), name, e)
	}
	o.Procs, o.Names, o.Exports = []int{0}, []string{"Trap"}, []bool{true}
	progs(t, o) // as it has no code for traps
}
