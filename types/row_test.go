package types

import (
	"fmt"
	"slices"
	"testing"

	"carrel/api"
)

// sample is a row with something of everything: arrays within arrays, records in three extensions, a Pointer ahead of its Record and one without any, Opens.
func sample(t *testing.T) []api.Type {
	t.Helper()
	add, l := grown(t)
	add(AddArray(*l, 5, api.Char))                                                               // 8
	add(AddPointer(*l, 0))                                                                       // 9: to 10
	add(AddRecord(*l, 0, []string{"next", "c", "s"}, []int{9, api.Char, 8}))                     // 10
	add(AddRecord(*l, 10, []string{"x", "set"}, []int{api.Integer, api.Set}))                    // 11
	add(AddRecord(*l, 11, nil, nil))                                                             // 12
	add(AddRecord(*l, 12, []string{"b", "y"}, []int{api.Boolean, api.Byte}))                     // 13
	add(AddPointer(*l, 11))                                                                      // 14
	add(AddPointer(*l, 13))                                                                      // 15
	add(AddArray(*l, 3, 8))                                                                      // 16
	add(AddArray(*l, 2, 11))                                                                     // 17
	add(AddOpen(*l, api.Char))                                                                   // 18
	add(AddOpen(*l, 8))                                                                          // 19
	add(AddArray(*l, 7, api.Char))                                                               // 20
	add(AddRecord(*l, 0, []string{"next", "m", "r", "e"}, []int{14, 16, 13, 12}))                // 21
	add(AddPointer(*l, 0))                                                                       // 22: to none
	add(AddPointer(*l, 11))                                                                      // 23: as 14
	add(AddOpen(*l, api.Char))                                                                   // 24: as 18
	add(AddArray(*l, 4, api.Integer))                                                            // 25
	add(AddOpen(*l, api.Integer))                                                                // 26
	add(AddArray(*l, 4, api.Byte))                                                               // 27
	add(AddRecord(*l, 0, nil, nil))                                                              // 28: nothing in it
	add(AddArray(*l, 16384, 28))                                                                 // 29
	add(AddRecord(*l, 10, []string{"z", "n", "f", "v"}, []int{api.Char, 29, api.Byte, api.Set})) // 30
	add(AddPointer(*l, 30))                                                                      // 31
	(*l)[9].Elem = 10
	return *l
}

func TestSample(t *testing.T) { // P11.1
	l := sample(t)
	if !plainRow(l) || Right(l) {
		t.Fatalf("plainly %v, Right %v", plainRow(l), Right(l))
	}
	l[22].Elem = 28
	if !Right(l) {
		t.Error("each Pointer has its Record, and the row is not right")
	}
	if l[29].Size != 0 || l[30].Size != 24 || l[30].Fields[1].Off != 16 || l[30].Fields[3].Off != 20 {
		t.Errorf("nothing takes room: %s", told(l[29:31]))
	}
}

// deep is a list in memory of its own.
func deep(l []api.Type) []api.Type {
	m := slices.Clone(l)
	for i := range m {
		m[i].Fields = slices.Clone(m[i].Fields)
	}
	return m
}

// isRow asks the program, by a call that says nothing else: an Integer may be assigned to itself.
func isRow(l []api.Type) bool { return Assigns(l, api.Integer, api.Integer) }

// holds asks whether a list is a row, and all that hangs on that.
func holds(t *testing.T, what string, l []api.Type) {
	t.Helper()
	row, right := plainRow(l), plainRight(l)
	if isRow(l) != row || Right(l) != right {
		t.Errorf("%s: a row: %v, want %v; right: %v, want %v: %s", what, isRow(l), row, Right(l), right, short(l))
	}
	_, _, e := AddOpen(l, api.Integer)
	if (e == api.OK) != (row && len(l) < 200) {
		t.Errorf("%s: AddOpen: %v", what, e)
	}
}

func numbersOf(t *api.Type) []*int {
	return []*int{&t.Form, &t.Len, &t.Elem, &t.Base, &t.Size, &t.Level}
}

func TestEachNumberSpoilt(t *testing.T) { // P11.1: each field of each type, by what stands near and far
	l := sample(t)
	for i := range l {
		for k := range numbersOf(&l[i]) {
			was := *numbersOf(&l[i])[k]
			for _, n := range append([]int{was - 4, was - 1, was + 1, was + 4, len(l) - 1, len(l), 21, 22, 28, 30, 31}, wild...) {
				*numbersOf(&l[i])[k] = n
				holds(t, fmt.Sprintf("number %d of type %d is %d", k, i, n), l)
			}
			*numbersOf(&l[i])[k] = was
		}
	}
	holds(t, "as it was", l)
}

func TestEachFieldSpoilt(t *testing.T) { // P11.1
	l := sample(t)
	for i := range l {
		for k := range l[i].Fields {
			f := &l[i].Fields[k]
			was := *f
			for _, n := range append([]int{was.Off - 4, was.Off - 1, was.Off + 1, was.Off + 4, was.Type + 1, i - 1, i, i + 1}, wild...) {
				f.Off = n
				holds(t, fmt.Sprintf("the offset of %d.%s is %d", i, was.Name, n), l)
				f.Off, f.Type = was.Off, n
				holds(t, fmt.Sprintf("the type of %d.%s is %d", i, was.Name, n), l)
				*f = was
			}
			for _, name := range []string{"next", "c", "s", "x", "set", "b", "y", "m", "r", "e", "z", "n", "f", "v", "", "other"} {
				f.Name = name
				holds(t, fmt.Sprintf("the name of %d.%s is %q", i, was.Name, name), l)
			}
			*f = was
		}
	}
}

func TestFieldsWhereNoneBelong(t *testing.T) { // P11.1; R3: nil and empty lists are one
	l := sample(t)
	for i := range l {
		was := l[i].Fields
		l[i].Fields = append(slices.Clone(was), api.Field{Name: "more", Type: 3, Off: l[i].Size})
		holds(t, fmt.Sprint("one more field of ", i), l)
		l[i].Fields = []api.Field{{}}
		holds(t, fmt.Sprint("a zero field of ", i), l)
		if len(was) == 0 {
			for _, none := range [][]api.Field{nil, {}, make([]api.Field, 0, 3)} {
				l[i].Fields = none
				if !isRow(l) {
					t.Errorf("type %d with no fields, %v", i, none == nil)
				}
			}
		}
		l[i].Fields = was
	}
}

func TestShortAndMovedLists(t *testing.T) { // P11.1
	if Right(nil) || isRow(nil) || Right([]api.Type{}) || Right(make([]api.Type, 8)) || Right(make([]api.Type, 100)) {
		t.Error("nothing, or noughts, are a row")
	}
	l := sample(t)
	for n := range l {
		holds(t, fmt.Sprint("the first ", n), deep(l[:n]))
	}
	for i := range l {
		holds(t, fmt.Sprint("without ", i), slices.Delete(deep(l), i, i+1))
		for k := range l {
			m := deep(l)
			m[i], m[k] = m[k], m[i]
			holds(t, fmt.Sprint("turned: ", i, k), m)
			holds(t, fmt.Sprint("once more: ", i), slices.Insert(deep(l), k, l[i]))
		}
	}
}

func TestPointersAheadOfTheirRecords(t *testing.T) { // P11.1: wherever it stands
	l := append(Basic(), api.Type{Form: api.Pointer, Elem: 9, Size: 4}, api.Type{Form: api.Record, Fields: []api.Field{{Name: "next", Type: 8}}, Size: 4})
	holds(t, "a record that points to itself", l)
	if !Right(l) {
		t.Error("it is right")
	}
	for _, elem := range []int{8, 10, -1, 7, 1} {
		l[8].Elem = elem
		holds(t, fmt.Sprint("elem ", elem), l)
	}
	l[8].Elem = 0
	if Right(l) || !isRow(l) {
		t.Error("a Pointer to nothing yet: a row, not a right one")
	}
	m, at, e := AddPointer(l, 9)
	if e != api.OK || at != 10 || Right(m) {
		t.Error("what is added behind it", at, e)
	}
}

func TestMaxSizeInRows(t *testing.T) { // P11.1: no size is above MaxSize
	array := func(n, elem, size int) api.Type { return api.Type{Form: api.Array, Len: n, Elem: elem, Size: size} }
	for _, x := range []struct {
		types []api.Type
		want  bool
	}{
		{[]api.Type{array(4096, 1, 16384)}, true},
		{[]api.Type{array(4097, 1, 16388)}, false},
		{[]api.Type{array(16384, 3, 16384)}, true},
		{[]api.Type{array(16385, 3, 16385)}, false},
		{[]api.Type{array(16384, 3, 16384), array(1, 8, 16384)}, true},
		{[]api.Type{array(16384, 3, 16384), array(2, 8, 32768)}, false},
		{[]api.Type{array(8192, 3, 8192), {Form: api.Record, Fields: []api.Field{{Name: "a", Type: 8}, {Name: "b", Type: 8, Off: 8192}}, Size: 16384}}, true},
		{[]api.Type{array(8193, 3, 8193), {Form: api.Record, Fields: []api.Field{{Name: "a", Type: 8}, {Name: "b", Type: 8, Off: 8193}}, Size: 16388}}, false},
		{[]api.Type{{Form: api.Record}, array(16384, 8, 0)}, true},
		{[]api.Type{{Form: api.Record}, array(16385, 8, 0)}, false},
		{[]api.Type{{Form: api.Record}, array(0, 8, 0)}, false},
	} {
		l := append(Basic(), x.types...)
		holds(t, short(l), l)
		if Right(l) != x.want {
			t.Errorf("%s: %v", short(l), Right(l))
		}
	}
}

func TestLevelsInRows(t *testing.T) { // P11.1: MaxLevel, MaxVars
	l := Basic()
	for level := range 5 {
		base := 0
		if level > 0 {
			base = 7 + level
		}
		l = append(l, api.Type{Form: api.Record, Base: base, Level: level})
		if holds(t, fmt.Sprint("level ", level), l); Right(l) != (level <= 3) {
			t.Error(level)
		}
	}
	for _, n := range []int{200, 201} {
		l := append(Basic(), api.Type{Form: api.Record, Size: 4 * n})
		for i := range n {
			l[8].Fields = append(l[8].Fields, api.Field{Name: fmt.Sprint(i), Type: 1, Off: 4 * i})
		}
		if holds(t, fmt.Sprint(n, " fields"), l); Right(l) != (n == 200) {
			t.Error(n)
		}
	}
}

func TestLongRows(t *testing.T) { // R1: all calls end, also of what is long and deep
	l := Basic()
	for len(l) < 100000 {
		elem := len(l) - 1
		if len(l) == 8 {
			elem = api.Char
		}
		l = append(l, api.Type{Form: api.Array, Len: 1, Elem: elem, Size: 1})
	}
	deepest := len(l) - 1
	for range 100000 {
		l = append(l, api.Type{Form: api.Record, Fields: []api.Field{{Name: "a", Type: deepest}}, Size: 4})
	}
	if !Right(l) || Align(l, deepest) != 1 || Assigns(l, 7, deepest) {
		t.Error("arrays of arrays of ..")
	}
	l[50000].Size = 2
	if Right(l) || Align(l, deepest) != 0 {
		t.Error("one within is none")
	}
}
