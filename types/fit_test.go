package types

import (
	"fmt"
	"slices"
	"testing"

	"carrel/api"
)

// fitsAll holds each call of each two places, and of places that are none, against what the chapter says.
func fitsAll(t *testing.T, l []api.Type) {
	t.Helper()
	places := []int{-1 << 63, -1, len(l), len(l) + 1, 1<<63 - 1}
	for i := range l {
		places = append(places, i)
	}
	for _, a := range places {
		want := 0
		if plainRow(l) && plainThing(l, a) {
			want = plainAlign(l, a)
		}
		if got := Align(l, a); got != want {
			t.Errorf("Align(%d) = %d: %s", a, got, short(l))
		}
		for _, b := range places {
			twoFit(t, l, a, b)
		}
	}
}

func twoFit(t *testing.T, l []api.Type, a, b int) {
	t.Helper()
	for _, x := range []struct {
		call      string
		got, want bool
	}{
		{"Extends", Extends(l, a, b), plainExtends(l, a, b)},
		{"Assigns", Assigns(l, a, b), plainAssigns(l, a, b)},
		{"Passes", Passes(l, a, b, false), plainPasses(l, a, b, false)},
		{"Passes ref", Passes(l, a, b, true), plainPasses(l, a, b, true)},
		{"Compares", Compares(l, a, b, false), plainCompares(l, a, b, false)},
		{"Compares order", Compares(l, a, b, true), plainCompares(l, a, b, true)},
	} {
		if x.got != x.want {
			t.Errorf("%s(%d, %d) = %v: %s", x.call, a, b, x.got, short(l))
		}
	}
}

func TestAllPairs(t *testing.T) { // P11.3 to P11.8
	for _, l := range [][]api.Type{Basic(), example(t), sample(t)} {
		fitsAll(t, l)
	}
}

func TestNothingFitsInNoRow(t *testing.T) { // P11.3 to P11.7: l is a row
	for _, spoil := range []func(l []api.Type) []api.Type{
		func(l []api.Type) []api.Type { return nil },
		func(l []api.Type) []api.Type { return l[:7] },
		func(l []api.Type) []api.Type { l[31].Size = 5; return l },
		func(l []api.Type) []api.Type { l[0].Level = 1; return l },
		func(l []api.Type) []api.Type { return append(l, api.Type{}) },
		func(l []api.Type) []api.Type { return append(l, api.Type{Form: 12}) },
		func(l []api.Type) []api.Type { return append(l, api.Type{Form: -1}) },
		func(l []api.Type) []api.Type { return append(l, l[1]) },
	} {
		l := spoil(sample(t))
		fitsAll(t, l)
		for i := range l {
			f, ok := Field(l, i, "next")
			if f != (api.Field{}) || ok || Align(l, i) != 0 || Extends(l, i, i) || Assigns(l, i, i) || Passes(l, i, i, true) || Compares(l, i, i, false) {
				t.Errorf("place %d of no row", i)
			}
		}
		m, at, e := AddArray(l, 1, 1)
		fails(t, "AddArray", api.ErrTypesForm)(m, at, e)
		m, at, e = AddArray(l, 16384, 1)
		fails(t, "AddArray of a size", api.ErrTypesForm)(m, at, e)
		m, at, e = AddPointer(l, 0)
		fails(t, "AddPointer", api.ErrTypesForm)(m, at, e)
		m, at, e = AddRecord(l, 0, nil, nil)
		fails(t, "AddRecord", api.ErrTypesForm)(m, at, e)
	}
}

// pairsOf are the pairs of a row of which a call says yes, as text.
func pairsOf(l []api.Type, call func(a, b int) bool) string {
	s := ""
	for a := range l {
		for b := range l {
			if call(a, b) {
				s += fmt.Sprintf("%d-%d ", a, b)
			}
		}
	}
	return s
}

func TestPairsWrittenOut(t *testing.T) { // P11.4 to P11.7: of the chapter's row all that fit, by hand
	l := append(example(t), api.Type{Form: api.Pointer, Size: 4}) // 14: to nothing yet
	for _, x := range []struct {
		what string
		call func(a, b int) bool
		want string
	}{
		{"Extends", func(a, b int) bool { return Extends(l, a, b) },
			"9-9 10-10 11-9 11-11 12-10 12-12 14-14 "},
		{"Assigns", func(a, b int) bool { return Assigns(l, a, b) },
			"1-1 1-4 2-2 3-3 4-1 4-4 5-5 6-10 6-12 6-14 7-8 8-8 9-9 10-10 11-11 12-10 12-12 14-14 "},
		{"Passes", func(a, b int) bool { return Passes(l, a, b, false) },
			"1-1 1-4 2-2 3-3 4-1 4-4 5-5 6-10 6-12 6-14 7-8 7-13 8-8 8-13 9-9 10-10 11-11 12-10 12-12 13-13 14-14 "},
		{"Passes ref", func(a, b int) bool { return Passes(l, a, b, true) },
			"1-1 2-2 3-3 4-4 5-5 8-8 8-13 9-9 10-10 11-11 12-12 13-13 14-14 "},
		{"Compares", func(a, b int) bool { return Compares(l, a, b, false) },
			"1-1 1-4 2-2 3-3 4-1 4-4 5-5 6-6 6-10 6-12 6-14 10-6 10-10 10-12 12-6 12-10 12-12 14-6 14-14 "},
		{"Compares order", func(a, b int) bool { return Compares(l, a, b, true) },
			"1-1 1-4 3-3 4-1 4-4 "},
	} {
		if got := pairsOf(l, x.call); got != x.want {
			t.Errorf("%s: %s; want %s", x.what, got, x.want)
		}
	}
}

func TestField(t *testing.T) { // P11.3
	l := sample(t)
	names := []string{"next", "c", "s", "x", "set", "b", "y", "m", "r", "e", "z", "n", "f", "v", "", "Next", "nex"}
	for at := -2; at < len(l)+2; at++ {
		for _, name := range names {
			var want api.Field
			has := false
			if plainForm(l, at) == api.Record {
				i := slices.IndexFunc(plainHas(l, at), func(f api.Field) bool { return f.Name == name })
				if has = i >= 0; has {
					want = plainHas(l, at)[i]
				}
			}
			if f, ok := Field(l, at, name); f != want || ok != has {
				t.Errorf("Field(%d, %q) = %v, %v; want %v, %v", at, name, f, ok, want, has)
			}
		}
	}
	for _, at := range wild {
		if f, ok := Field(l, at, "nothing"); ok || f != (api.Field{}) {
			t.Errorf("Field(%d, nothing) = %v, %v", at, f, ok)
		}
	}
}

func TestHandedInAndOut(t *testing.T) { // R3: neither written into nor kept, and new memory
	l := make([]api.Type, 0, 100)
	l = append(l, sample(t)...)
	for i := range l {
		l[i].Fields = append(make([]api.Field, 0, 10), l[i].Fields...)
	}
	l = append(l, l[10]) // two types with the same memory, both right
	was, spare := told(l), l[len(l):cap(l)]
	names, of := make([]string, 2, 9), make([]int, 2, 9)
	copy(names, []string{"p", "q"})
	copy(of, []int{1, 3})
	answers := [][]api.Type{}
	for range 2 {
		m, _, e := AddRecord(l, 12, names, of)
		if e != api.OK {
			t.Fatal(e)
		}
		n, _, _ := AddArray(l, 2, 21)
		o, _, _ := AddOpen(l, 21)
		p, _, _ := AddPointer(l, 21)
		answers = append(answers, m, n, o, p)
	}
	Right(l)
	twoFit(t, l, 14, 15)
	if told(l) != was || told(spare) != told(make([]api.Type, len(spare))) || fmt.Sprint(names, of, names[:9], of[:9]) != "[p q] [1 3] [p q       ] [1 3 0 0 0 0 0 0 0]" {
		t.Error("what was handed in is written into")
	}
	before := told(answers[0])
	for i := range l {
		l[i].Form = 99
		for k := range l[i].Fields[:cap(l[i].Fields)] {
			l[i].Fields[:10][k].Name = "other"
		}
	}
	names[0], of[0] = "other", 77
	for _, m := range answers[1:] {
		spoil(m)
	}
	if told(answers[0]) != before {
		t.Error("an answer shares memory with what was handed in, or with another one")
	}
	spoilOne(t, answers[0])
}

// spoil writes all over a list, its spare room too.
func spoil(l []api.Type) {
	l = l[:cap(l)]
	for i := range l {
		fields := l[i].Fields[:cap(l[i].Fields)]
		for k := range fields {
			fields[k] = api.Field{Name: "spoilt", Type: -7, Off: -7}
		}
		l[i] = api.Type{Form: -7}
	}
}

// spoilOne writes into each type's fields in turn, spare room too: no other one's change.
func spoilOne(t *testing.T, l []api.Type) {
	t.Helper()
	for i := range l {
		fields := l[i].Fields[:cap(l[i].Fields)]
		was := told(append(deep(l[:i]), deep(l[i+1:])...))
		for k := range fields {
			fields[k].Name += "!"
		}
		if told(append(deep(l[:i]), deep(l[i+1:])...)) != was {
			t.Errorf("the fields of %d are those of another one too", i)
		}
	}
}
