package types

import (
	"fmt"
	"math"
	"strings"
	"testing"

	"carrel/api"
)

// told is types as text, short enough to be read; nil and empty lists look the same.
func told(l []api.Type) string {
	var s strings.Builder
	for i, t := range l {
		fmt.Fprintf(&s, "%d:{%d %d %d %d %v %d %d} ", i, t.Form, t.Len, t.Elem, t.Base, t.Fields, t.Size, t.Level)
	}
	return s.String()
}

// short cuts what is told in a failure.
func short(l []api.Type) string {
	s := told(l)
	if len(l) > 8 {
		s = told(l[8:]) + "(from 8 on)"
	}
	if len(s) > 400 {
		s = s[:400] + " .."
	}
	return s
}

// grown is a row with one more type, which must be to be had.
func grown(t *testing.T) (func(l []api.Type, at int, e api.Errno), *[]api.Type) {
	l := Basic()
	return func(m []api.Type, at int, e api.Errno) {
		t.Helper()
		if e != api.OK || at != len(l) || len(m) != len(l)+1 {
			t.Fatalf("%d types behind %d, place %d, %v", len(m), len(l), at, e)
		}
		l = m
	}, &l
}

// example is the chapter's.
func example(t *testing.T) []api.Type {
	t.Helper()
	add, l := grown(t)
	add(AddArray(*l, 5, api.Char))
	add(AddRecord(*l, 0, []string{"a", "b", "c"}, []int{api.Char, api.Integer, 8}))
	add(AddPointer(*l, 9))
	add(AddRecord(*l, 9, []string{"d"}, []int{api.Char}))
	add(AddPointer(*l, 11))
	add(AddOpen(*l, api.Char))
	return *l
}

func TestExampleWritten(t *testing.T) { // P11.1, P11.2: the row, each field of it
	want := append(append([]api.Type{}, plainBasic...),
		api.Type{Form: api.Array, Len: 5, Elem: 3, Size: 5},
		api.Type{Form: api.Record, Fields: []api.Field{{Name: "a", Type: 3, Off: 0}, {Name: "b", Type: 1, Off: 4}, {Name: "c", Type: 8, Off: 8}}, Size: 16},
		api.Type{Form: api.Pointer, Elem: 9, Size: 4},
		api.Type{Form: api.Record, Base: 9, Fields: []api.Field{{Name: "d", Type: 3, Off: 16}}, Size: 20, Level: 1},
		api.Type{Form: api.Pointer, Elem: 11, Size: 4},
		api.Type{Form: api.Open, Elem: 3})
	if l := example(t); told(l) != told(want) || !Right(l) || !Right(want) {
		t.Errorf("%s\nwant %s", short(l), short(want))
	}
}

func TestExampleCalls(t *testing.T) { // P11.3 to P11.7: the chapter's table
	l := example(t)
	for _, x := range [][2]int{{8, 1}, {9, 4}, {13, 0}, {99, 0}} {
		if a := Align(l, x[0]); a != x[1] {
			t.Errorf("Align(%d) = %d", x[0], a)
		}
	}
	for name, want := range map[string]api.Field{"a": {Name: "a", Type: 3}, "b": {Name: "b", Type: 1, Off: 4}, "c": {Name: "c", Type: 8, Off: 8}, "d": {Name: "d", Type: 3, Off: 16}} {
		if f, ok := Field(l, 11, name); f != want || !ok {
			t.Errorf("Field(11, %s) = %v, %v", name, f, ok)
		}
	}
	bools := []struct {
		call string
		got  bool
		want bool
	}{
		{"Extends 12 10", Extends(l, 12, 10), true},
		{"Extends 11 9", Extends(l, 11, 9), true},
		{"Extends 9 11", Extends(l, 9, 11), false},
		{"Extends 10 9", Extends(l, 10, 9), false},
		{"Assigns 12 10", Assigns(l, 12, 10), true},
		{"Assigns 10 12", Assigns(l, 10, 12), false},
		{"Assigns 6 10", Assigns(l, 6, 10), true},
		{"Assigns 4 1", Assigns(l, 4, 1), true},
		{"Assigns 7 8", Assigns(l, 7, 8), true},
		{"Assigns 11 9", Assigns(l, 11, 9), false},
		{"Passes 8 13 ref", Passes(l, 8, 13, true), true},
		{"Passes 7 13", Passes(l, 7, 13, false), true},
		{"Passes 7 13 ref", Passes(l, 7, 13, true), false},
		{"Passes 4 1 ref", Passes(l, 4, 1, true), false},
		{"Compares 1 4 order", Compares(l, 1, 4, true), true},
		{"Compares 2 2 order", Compares(l, 2, 2, true), false},
		{"Compares 2 2", Compares(l, 2, 2, false), true},
		{"Compares 10 12", Compares(l, 10, 12, false), true},
		{"Compares 6 6", Compares(l, 6, 6, false), true},
	}
	for _, x := range bools {
		if x.got != x.want {
			t.Errorf("%s: %v", x.call, x.got)
		}
	}
}

func TestBasic(t *testing.T) { // P11.1
	l := Basic()
	if told(l) != told(plainBasic) || !Right(l) {
		t.Errorf("%s", told(l))
	}
	l[1].Size, l[3].Form = 9, 9
	if told(Basic()) != told(plainBasic) {
		t.Error("what was answered is kept")
	}
}

// fails asks for an error and nothing beside it.
func fails(t *testing.T, call string, want api.Errno) func([]api.Type, int, api.Errno) {
	return func(l []api.Type, at int, e api.Errno) {
		t.Helper()
		if e != want || len(l) != 0 || at != 0 {
			t.Errorf("%s: %d types, %d, %v; want %v", call, len(l), at, e, want)
		}
	}
}

var wild = []int{math.MinInt, math.MinInt32, -2, -1, 0, 1, 2, 3, 4, 5, 6, 7, 8, 9, 10, 11, 12, 13, 14, 15, 99, 200, 16383, 16384, 16385, math.MaxInt32, math.MaxInt32 + 1, math.MaxInt - 1, math.MaxInt}

func TestAddArray(t *testing.T) { // P11.2
	l := example(t)
	form, size := api.ErrTypesForm, api.ErrTypesSize
	for _, x := range []struct {
		n, elem int
		e       api.Errno
		size    int
	}{
		{0, 1, form, 0}, {4097, 1, size, 0}, {3, 13, form, 0}, // the chapter's
		{1, 1, 0, 4}, {4096, 1, 0, 16384}, {16384, 2, 0, 16384}, {16384, 3, 0, 16384}, {16384, 4, 0, 16384}, {16385, 3, form, 0},
		{4096, 5, 0, 16384}, {4097, 5, size, 0}, {16384, 5, size, 0}, {16384, 9, size, 0},
		{3276, 8, 0, 16380}, {3277, 8, size, 0}, {1024, 9, 0, 16384}, {1025, 9, size, 0}, {4096, 10, 0, 16384}, {4097, 12, size, 0}, {819, 11, 0, 16380}, {820, 11, size, 0},
		{1, 0, form, 0}, {1, 6, form, 0}, {1, 7, form, 0}, {1, 13, form, 0}, {1, 14, form, 0}, {1, -1, form, 0},
		{-1, 1, form, 0}, {math.MinInt, 1, form, 0}, {math.MaxInt, 1, form, 0}, {16385, 1, form, 0}, {1, math.MaxInt, form, 0}, {1, math.MinInt, form, 0},
	} {
		m, at, e := AddArray(l, x.n, x.elem)
		if x.e != api.OK {
			fails(t, fmt.Sprint("AddArray ", x.n, x.elem), x.e)(m, at, e)
			continue
		}
		want := append(example(t), api.Type{Form: api.Array, Len: x.n, Elem: x.elem, Size: x.size})
		if told(m) != told(want) || at != 14 || e != api.OK || !Right(m) {
			t.Errorf("AddArray(%d, %d): %s, %d, %v", x.n, x.elem, short(m), at, e)
		}
	}
}

func TestAddOpenAndPointer(t *testing.T) { // P11.2
	l := example(t)
	for _, n := range wild {
		m, at, e := AddOpen(l, n)
		if n >= 1 && n <= 5 || n >= 8 && n <= 12 {
			if want := append(example(t), api.Type{Form: api.Open, Elem: n}); told(m) != told(want) || at != 14 || e != api.OK || !Right(m) {
				t.Errorf("AddOpen(%d): %s, %d, %v", n, short(m), at, e)
			}
		} else {
			fails(t, fmt.Sprint("AddOpen ", n), api.ErrTypesForm)(m, at, e)
		}
		m, at, e = AddPointer(l, n)
		if n == 0 || n == 9 || n == 11 {
			if want := append(example(t), api.Type{Form: api.Pointer, Elem: n, Size: 4}); told(m) != told(want) || at != 14 || e != api.OK || Right(m) == (n == 0) {
				t.Errorf("AddPointer(%d): %s, %d, %v", n, short(m), at, e)
			}
		} else {
			fails(t, fmt.Sprint("AddPointer ", n), api.ErrTypesForm)(m, at, e)
		}
	}
}

func TestAddRecord(t *testing.T) { // P11.2, and a record's layout
	l := example(t)
	for _, x := range []struct {
		base  int
		names string
		of    []int
		offs  string
		size  int
	}{
		{0, "", nil, "[]", 0},
		{9, "", nil, "[]", 16},
		{11, "", nil, "[]", 20},
		{0, "x", []int{3}, "[0]", 4},
		{0, "x y", []int{3, 3}, "[0 1]", 4},
		{0, "x y z u v", []int{2, 3, 4, 2, 3}, "[0 1 2 3 4]", 8},
		{0, "x y", []int{3, 1}, "[0 4]", 8},
		{0, "x y", []int{1, 3}, "[0 4]", 8},
		{0, "x y z", []int{3, 5, 3}, "[0 4 8]", 12},
		{0, "x y z", []int{8, 8, 3}, "[0 5 10]", 12},
		{0, "x y z", []int{8, 10, 8}, "[0 8 12]", 20},
		{0, "x y z", []int{3, 9, 3}, "[0 4 20]", 24},
		{9, "x y", []int{3, 11}, "[16 20]", 40},
		{11, "x", []int{3}, "[20]", 24},
		{11, "x y", []int{12, 2}, "[20 24]", 28},
		{0, "a b c d", []int{1, 1, 1, 1}, "[0 4 8 12]", 16},
		{9, "d", []int{1}, "[16]", 20},
		{9, "A B", []int{1, 1}, "[16 20]", 24},
	} {
		m, at, e := AddRecord(l, x.base, strings.Fields(x.names), x.of)
		if e != api.OK || at != 14 || len(m) != 15 || told(m[:14]) != told(l) || !Right(m) {
			t.Errorf("AddRecord(%d, %s, %v): %d, %v", x.base, x.names, x.of, at, e)
			continue
		}
		offs := []int{}
		for i, f := range m[14].Fields {
			if f.Name != strings.Fields(x.names)[i] || f.Type != x.of[i] {
				t.Errorf("AddRecord(%d, %s, %v): field %v", x.base, x.names, x.of, f)
			}
			offs = append(offs, f.Off)
		}
		r := m[14]
		level := map[int]int{0: 0, 9: 1, 11: 2}[x.base]
		if fmt.Sprint(offs) != x.offs || r.Size != x.size || r.Form != api.Record || r.Base != x.base || r.Level != level || r.Elem != 0 || r.Len != 0 {
			t.Errorf("AddRecord(%d, %s, %v): offsets %v, %s", x.base, x.names, x.of, offs, told(m[14:]))
		}
	}
}

func TestAddRecordRefused(t *testing.T) { // P11.2
	l := example(t)
	for _, x := range []struct {
		base  int
		names string
		of    []int
	}{
		{0, "x", nil}, {0, "", []int{1}}, {0, "x y", []int{1}}, {0, "x", []int{1, 1}},
		{0, "x x", []int{1, 1}}, {0, "x y x", []int{1, 1, 1}}, {0, "y x x", []int{1, 1, 1}},
		{9, "a", []int{1}}, {9, "b", []int{1}}, {9, "c", []int{8}}, {9, "x c", []int{1, 1}},
		{11, "a", []int{1}}, {11, "c", []int{1}}, {11, "d", []int{3}}, {11, "x y d", []int{3, 3, 3}},
		{0, "x", []int{0}}, {0, "x", []int{6}}, {0, "x", []int{7}}, {0, "x", []int{13}}, {0, "x", []int{14}}, {0, "x", []int{-1}},
		{0, "x y", []int{1, 13}}, {0, "x y", []int{13, 1}}, {0, "x", []int{math.MaxInt}}, {0, "x", []int{math.MinInt}},
		{1, "", nil}, {7, "", nil}, {8, "", nil}, {10, "", nil}, {12, "", nil}, {13, "", nil}, {14, "", nil}, {-1, "", nil},
		{math.MaxInt, "", nil}, {math.MinInt, "", nil}, {1, "x", []int{1}},
	} {
		m, at, e := AddRecord(l, x.base, strings.Fields(x.names), x.of)
		fails(t, fmt.Sprint("AddRecord ", x.base, x.names, x.of), api.ErrTypesForm)(m, at, e)
	}
}

func TestFieldNamesAreAnyTexts(t *testing.T) { // P11.2: the table asks for names unlike one another, for nothing else
	names := []string{"", " ", "\x00", "END", "ä", "\xFF", strings.Repeat("n", 1000), "a", "A"}
	of := []int{1, 1, 1, 1, 1, 1, 1, 1, 1}
	l, at, e := AddRecord(Basic(), 0, names, of)
	if e != api.OK || !Right(l) {
		t.Fatal(at, e)
	}
	for i, name := range names {
		if f, ok := Field(l, at, name); !ok || f.Off != 4*i || f.Name != name {
			t.Errorf("%.20q: %v, %v", name, f.Off, ok)
		}
	}
	m, at, e := AddRecord(l, 8, []string{""}, []int{1})
	fails(t, "an empty name that the base has", api.ErrTypesForm)(m, at, e)
}

// count are n names, and so many times one type.
func count(n, of int, ahead string) ([]string, []int) {
	names, types := make([]string, n), make([]int, n)
	for i := range names {
		names[i], types[i] = fmt.Sprint(ahead, i), of
	}
	return names, types
}

func TestHowManyFields(t *testing.T) { // P11.2: MaxVars; own fields alone count
	l := Basic()
	for _, n := range []int{199, 200, 201, 1000} {
		names, of := count(n, api.Integer, "f")
		m, at, e := AddRecord(l, 0, names, of)
		if n > api.MaxVars {
			fails(t, fmt.Sprint(n, " fields"), api.ErrTypesForm)(m, at, e)
		} else if e != api.OK || m[8].Size != 4*n || m[8].Fields[n-1].Off != 4*n-4 || !Right(m) {
			t.Errorf("%d fields: %v", n, e)
		}
	}
	base := 0
	for level := range api.MaxLevel + 1 {
		names, of := count(200, api.Char, fmt.Sprint("x", level, "_"))
		m, at, e := AddRecord(l, base, names, of)
		if e != api.OK || m[at].Size != 200*(level+1) || m[at].Level != level || !Right(m) {
			t.Fatalf("level %d: %v", level, e)
		}
		l, base = m, at
	}
	for _, name := range []string{"x0_0", "x0_199", "x1_7", "x2_199", "x3_0"} {
		if f, ok := Field(l, base, name); !ok || f.Name != name {
			t.Error(name, f, ok)
		}
	}
	names, of := count(200, api.Char, "x0_")
	m, at, e := AddRecord(l, 10, append(names[:0:0], names[199]), of[:1])
	fails(t, "a name of the base's base's base", api.ErrTypesForm)(m, at, e)
}

func TestHowDeep(t *testing.T) { // P11.2: MaxLevel
	l := Basic()
	for level := range 4 {
		base := 0
		if level > 0 {
			base = 7 + level
		}
		m, at, e := AddRecord(l, base, nil, nil)
		if e != api.OK || at != 8+level || m[at].Level != level {
			t.Fatal(level, at, e)
		}
		l = m
	}
	m, at, e := AddRecord(l, 11, nil, nil)
	fails(t, "level 4", api.ErrTypesForm)(m, at, e)
	m, at, e = AddRecord(l, 10, nil, nil)
	if e != api.OK || m[at].Level != 3 {
		t.Error("a second one of level 3", e)
	}
}

func TestHowLarge(t *testing.T) { // P11.2: MaxSize, rounded up
	add, l := grown(t)
	add(AddArray(*l, 16380, api.Char)) // 8
	add(AddArray(*l, 16384, api.Char)) // 9
	add(AddRecord(*l, 0, []string{"a"}, []int{8}))
	add(AddRecord(*l, 0, []string{"a"}, []int{9}))
	for _, x := range []struct {
		base int
		of   []int
		e    api.Errno
		size int
	}{
		{0, []int{8, 3}, 0, 16384}, {0, []int{8, 3, 3, 3, 3}, 0, 16384}, {0, []int{8, 3, 3, 3, 3, 3}, api.ErrTypesSize, 0},
		{0, []int{8, 1}, 0, 16384}, {0, []int{8, 1, 3}, api.ErrTypesSize, 0}, {0, []int{9}, 0, 16384}, {0, []int{9, 3}, api.ErrTypesSize, 0},
		{0, []int{3, 8}, 0, 16384}, {0, []int{3, 9}, api.ErrTypesSize, 0}, {0, []int{10, 1}, 0, 16384}, {0, []int{11, 2}, api.ErrTypesSize, 0},
		{10, []int{3}, 0, 16384}, {10, []int{1}, 0, 16384}, {10, []int{1, 3}, api.ErrTypesSize, 0},
		{11, nil, 0, 16384}, {11, []int{3}, api.ErrTypesSize, 0}, {0, []int{9, 9, 9, 9}, api.ErrTypesSize, 0},
		{0, []int{9, 9, 13}, api.ErrTypesForm, 0}, {11, []int{3, 0}, api.ErrTypesForm, 0}, // both errors: the first named
	} {
		names, _ := count(len(x.of), 0, "f")
		m, at, e := AddRecord(*l, x.base, names, x.of)
		if x.e != api.OK {
			fails(t, fmt.Sprint("AddRecord ", x.base, x.of), x.e)(m, at, e)
		} else if e != api.OK || m[at].Size != x.size || !Right(m) {
			t.Errorf("AddRecord(%d, %v): %v, size %d", x.base, x.of, e, m[at].Size)
		}
	}
	names, of := count(200, 9, "f")
	m, at, e := AddRecord(*l, 0, names, of)
	fails(t, "200 times MaxSize", api.ErrTypesSize)(m, at, e)
	m, at, e = AddRecord(*l, 11, append(names[:199:199], "a"), of)
	fails(t, "and a name twice", api.ErrTypesForm)(m, at, e)
	m, at, e = AddArray(*l, 16385, 9)
	fails(t, "AddArray, both errors", api.ErrTypesForm)(m, at, e)
}

func TestHowManyTypes(t *testing.T) { // P11.2: MaxTypes; a row itself may have more
	l := Basic()
	for len(l) < api.MaxTypes {
		m, at, e := AddPointer(l, 0)
		if e != api.OK || at != len(l) {
			t.Fatal(len(l), at, e)
		}
		l = m
	}
	for range 2 {
		m, at, e := AddArray(l, 1, 1)
		fails(t, "AddArray", api.ErrTypesForm)(m, at, e)
		m, at, e = AddArray(l, 16384, 1)
		fails(t, "AddArray of a size", api.ErrTypesForm)(m, at, e)
		m, at, e = AddOpen(l, 1)
		fails(t, "AddOpen", api.ErrTypesForm)(m, at, e)
		m, at, e = AddPointer(l, 0)
		fails(t, "AddPointer", api.ErrTypesForm)(m, at, e)
		m, at, e = AddRecord(l, 0, nil, nil)
		fails(t, "AddRecord", api.ErrTypesForm)(m, at, e)
		l = append(l, api.Type{Form: api.Record})
		for i := 8; i < 200; i++ {
			l[i].Elem = 200
		}
		if !Right(l) || Align(l, 200) != 4 || !Extends(l, 8, 199) {
			t.Error("201 types are a row too")
		}
	}
}
