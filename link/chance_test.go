package link

import (
	"bytes"
	"math/rand"
	"slices"
	"strings"
	"testing"

	"carrel/api"
)

// Lists of objects of chance, held against the chapter told plainly.

// chance makes objects; spoil: one in so many things is made such that it does not fit.
type chance struct {
	*rand.Rand
	spoil int
}

func (r chance) spoils() bool { return r.spoil > 0 && r.Intn(r.spoil) == 0 }

func (r chance) pick(l ...int) int { return l[r.Intn(len(l))] }

// list makes objects that import those ahead of them, then lays them in another order.
func (r chance) list() []api.Object {
	var l []api.Object
	for i := range r.pick(1, 1, 2, 2, 3, 3, 4, 5, 8, 16) {
		o := r.things(string(rune('A'+i)) + strings.Repeat("x", r.Intn(3)))
		for _, other := range r.Perm(i) {
			if r.Intn(2) == 0 {
				o.Imports = append(o.Imports, api.Import{Name: l[other].Name, Key: l[other].Key})
			}
		}
		r.code(&o, l)
		l = append(l, o)
	}
	r.Shuffle(len(l), func(i, k int) { l[i], l[k] = l[k], l[i] })
	if r.spoils() {
		r.misfit(l)
	}
	return l
}

// things makes an object without code.
func (r chance) things(name string) api.Object {
	o := api.Object{Name: name, Key: uint32(r.Intn(3))}
	for i := range r.Intn(5) {
		o.Names = append(o.Names, string(rune('P'+i)))
		o.Exports = append(o.Exports, r.Intn(2) == 0)
	}
	if len(o.Names) > 0 && r.Intn(2) == 0 {
		o.Names[r.Intn(len(o.Names))] = "Trap"
	}
	for i := range r.Intn(6) {
		o.Vars = append(o.Vars, r.pick(1, 2, 3, 4, 5, 8, 13, 100))
		if r.Intn(40) == 0 {
			o.Vars[i] = r.pick(16384, 16383, 10000)
		}
		if r.Intn(2) == 0 {
			o.Shown = append(o.Shown, i)
		}
	}
	for range r.Intn(4) {
		o.Strings = append(o.Strings, r.text())
	}
	for at := r.pick(8, 9, 12); at < 200 && r.Intn(4) > 0; at += r.pick(1, 2, 50) {
		d := api.Desc{Type: at, Size: 4 * r.Intn(30)}
		for range r.Intn(4) {
			if len(o.Descs) > 0 {
				d.Tags = append(d.Tags, o.Descs[r.Intn(len(o.Descs))].Type)
			}
		}
		d.Tags = append(d.Tags, at)
		o.Descs = append(o.Descs, d)
	}
	return o
}

func (r chance) text() string {
	b := make([]byte, r.pick(0, 1, 2, 3, 4, 5, 7, 8, 200))
	r.Read(b)
	return string(b)
}

// code makes an object's code, and its fixes, of which each names one of its things, or of those that others show.
func (r chance) code(o *api.Object, ahead []api.Object) {
	for range 1 + r.Intn(12) {
		f, ok := r.fix(*o, ahead)
		f.At = len(o.Code)
		a := uint32(r.Intn(16))
		switch {
		case !ok:
			o.Code = append(o.Code, r.Uint32())
			continue
		case r.spoils():
			o.Code = append(o.Code, r.Uint32(), r.Uint32())
		case f.Kind == api.FixProc:
			o.Code = append(o.Code, 0xE0000000|r.Uint32())
		default:
			o.Code = append(o.Code, 0x60000000|a<<24|r.Uint32()&0xFFFF, 0x40060000|a<<24|a<<20|r.Uint32()&0xFFFF)
		}
		o.Fixes = append(o.Fixes, f)
	}
	for range o.Names {
		o.Procs = append(o.Procs, r.Intn(len(o.Code)))
	}
	o.Init = r.Intn(len(o.Code))
}

func (r chance) fix(o api.Object, ahead []api.Object) (api.Fix, bool) {
	f := api.Fix{Kind: 1 + r.Intn(5), M: -1}
	if len(o.Imports) > 0 && r.Intn(2) == 0 {
		f.M, f.Kind = r.Intn(len(o.Imports)), r.pick(api.FixProc, api.FixVar, api.FixEntry)
		o = ahead[plainNamed(ahead, o.Imports[f.M].Name)]
	}
	there := map[int]int{api.FixProc: len(o.Names), api.FixEntry: len(o.Names), api.FixVar: len(o.Vars), api.FixStr: len(o.Strings), api.FixDesc: len(o.Descs)}[f.Kind]
	if f.M >= 0 {
		there = len(o.Shown)
		if f.Kind != api.FixVar {
			there = exports(o)
		}
		if r.spoils() {
			there++
		}
	}
	if there == 0 {
		return f, false
	}
	if f.N = r.Intn(there); f.Kind == api.FixDesc {
		f.N = o.Descs[f.N].Type
	}
	return f, true
}

// exports is how many procedures an object shows.
func exports(o api.Object) int {
	n := 0
	for _, is := range o.Exports {
		if is {
			n++
		}
	}
	return n
}

// misfit spoils one object, or what one says of another.
func (r chance) misfit(l []api.Object) {
	o := &l[r.Intn(len(l))]
	switch r.Intn(6) {
	case 0:
		o.Key++
	case 1:
		o.Name = l[r.Intn(len(l))].Name
	case 2:
		o.Vars = many(r.pick(30, 200), 16384)
		o.Shown = nil
	case 3:
		o.Init = len(o.Code)
	case 4:
		if len(o.Imports) > 0 {
			o.Imports[r.Intn(len(o.Imports))].Name = "Other"
		}
	case 5:
		if other := l[r.Intn(len(l))]; !slices.ContainsFunc(o.Imports, func(i api.Import) bool { return i.Name == other.Name }) {
			o.Imports = append(o.Imports, api.Import{Name: other.Name, Key: other.Key})
		}
	}
}

// sameAsTold holds Order, Boot and Prog against the plain telling, and says which error Boot answers.
func sameAsTold(t *testing.T, l []api.Object) api.Errno {
	t.Helper()
	order, name, e := Order(l)
	if o, n, x := plainFit(l); !slices.Equal(o, order) || n != name || x != e {
		t.Fatalf("Order: %v, %q, %v; told %v, %q, %v", order, name, e, o, n, x)
	}
	file, name, e := Prog(l)
	if f, n, x := plainProg(l); !bytes.Equal(f, file) || n != name || x != e {
		t.Errorf("Prog: %d bytes, %q, %v; told %d, %q, %v", len(file), name, e, len(f), n, x)
		sameWords(t, "Prog", wordsIn(file), wordsIn(f))
	}
	image, name, e := Boot(l)
	if i, n, x := plainBoot(l); !slices.Equal(i.Words, image.Words) || i.Entry != image.Entry || n != name || x != e {
		t.Errorf("Boot: %d words, %q, %v; told %d, %q, %v", len(image.Words), name, e, len(i.Words), n, x)
		sameWords(t, "Boot", image.Words, i.Words)
	}
	if t.Failed() {
		t.FailNow()
	}
	return e
}

func TestChance(t *testing.T) { // P16.1 to P16.3
	r := chance{Rand: rand.New(rand.NewSource(161))}
	traps := 0
	for range 3000 {
		l := right(t, r.list()...)
		if e := sameAsTold(t, l); e == api.OK && boots(t, l...).Words[4] != 0 {
			traps++
		}
	}
	if traps < 100 || traps > 2900 {
		t.Errorf("%d have code for traps", traps)
	}
}

func TestSpoiltChance(t *testing.T) { // P16.1 to P16.3
	r := chance{Rand: rand.New(rand.NewSource(162))}
	told := map[api.Errno]int{}
	for n := range 5000 {
		r.spoil = 2 + n%30
		told[sameAsTold(t, r.list())]++
	}
	for _, e := range []api.Errno{api.OK, api.ErrLinkNone, api.ErrLinkTwice, api.ErrLinkKey, api.ErrLinkCycle, api.ErrLinkFix, api.ErrLinkLong, api.ErrLinkObject} {
		if told[e] < 10 {
			t.Errorf("%v was told %d times of 5000", e, told[e])
		}
	}
}

func TestCodeStandsAsItIs(t *testing.T) { // what follows: apart from the words that fixes name
	r := chance{Rand: rand.New(rand.NewSource(163))}
	for range 500 {
		l := right(t, r.list()...)
		order, _, _ := Order(l)
		image, _, e := Boot(l)
		if e != api.OK {
			t.Fatal(e)
		}
		for _, place := range order {
			o := l[place]
			begins := 0
			for begins+len(o.Code) <= len(image.Words) && !standsAt(image.Words[begins:], o) {
				begins++
			}
			if begins+len(o.Code) > len(image.Words) {
				t.Fatalf("%s stands nowhere", o.Name)
			}
		}
	}
}

// standsAt: does an object's code begin these words, but for what fixes fill in?
func standsAt(words []uint32, o api.Object) bool {
	masks := many(len(o.Code), uint32(0xFFFFFFFF))
	for _, f := range o.Fixes {
		if f.Kind == api.FixProc {
			masks[f.At] = 0xFF000000
			continue
		}
		masks[f.At], masks[f.At+1] = 0xFFFF0000, 0xFFFF0000
	}
	for i, mask := range masks {
		if words[i]&mask != o.Code[i]&mask {
			return false
		}
	}
	return true
}
