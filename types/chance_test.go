package types

import (
	"fmt"
	"math/rand"
	"testing"

	"carrel/api"
)

// anyType is a type that is to be added, often a right one.
func anyType(r *rand.Rand, l []api.Type) api.Type {
	place := func() int {
		if r.Intn(12) == 0 {
			return r.Intn(len(l)+6) - 3
		}
		return []int{1, 2, 3, 4, 5, len(l) - 1, r.Intn(len(l)), r.Intn(len(l))}[r.Intn(8)]
	}
	recordPlace := func() int {
		for range 5 {
			if p := r.Intn(len(l)); l[p].Form == api.Record {
				return p
			}
		}
		return place()
	}
	switch r.Intn(7) {
	case 0:
		return api.Type{Form: api.Array, Len: []int{r.Intn(6), 1 + r.Intn(20), 16384 >> r.Intn(15), r.Intn(20000)}[r.Intn(4)], Elem: place()}
	case 1:
		return api.Type{Form: api.Open, Elem: place()}
	case 2, 3:
		return api.Type{Form: api.Pointer, Elem: recordPlace() * min(1, r.Intn(6))}
	}
	t := api.Type{Form: api.Record}
	if r.Intn(3) > 0 {
		t.Base = recordPlace()
	}
	for range r.Intn(6) {
		t.Fields = append(t.Fields, api.Field{Name: fmt.Sprint(r.Intn(60)), Type: place()})
	}
	return t
}

// addOf adds a type by the call of its form.
func addOf(l []api.Type, t api.Type) ([]api.Type, int, api.Errno) {
	switch t.Form {
	case api.Array:
		return AddArray(l, t.Len, t.Elem)
	case api.Open:
		return AddOpen(l, t.Elem)
	case api.Pointer:
		return AddPointer(l, t.Elem)
	}
	names, of := []string{}, []int{}
	for _, f := range t.Fields {
		names, of = append(names, f.Name), append(of, f.Type)
	}
	return AddRecord(l, t.Base, names, of)
}

// anyRow is a row of chance; each answer on the way is held against what the chapter says.
func anyRow(t *testing.T, r *rand.Rand, n int) []api.Type {
	t.Helper()
	l := Basic()
	for range n {
		x := anyType(r, l)
		m, at, e := addOf(l, x)
		want, f := plainAdd(l, x)
		if e != f || told(m) != told(want) || e == api.OK && at != len(l) || e != api.OK && at != 0 {
			t.Fatalf("%s behind %s: %d, %v; want %v", told([]api.Type{x}), short(l), at, e, f)
		}
		if e == api.OK {
			l = m
		}
		if !plainRow(l) || !isRow(l) || Right(l) != plainRight(l) {
			t.Fatalf("no row: %s", short(l))
		}
	}
	for i, x := range l { // Pointers find their Records later
		if x.Form == api.Pointer && x.Elem == 0 && r.Intn(2) == 0 {
			if k := r.Intn(len(l)); l[k].Form == api.Record {
				l[i].Elem = k
			}
		}
	}
	return l
}

func TestRowsOfChance(t *testing.T) { // P11.1 to P11.8
	r := rand.New(rand.NewSource(11))
	for range 150 {
		l := anyRow(t, r, 4+r.Intn(25))
		fitsAll(t, l)
		if t.Failed() {
			return
		}
	}
}

func TestSpoiltRowsOfChance(t *testing.T) { // P11.1
	r := rand.New(rand.NewSource(12))
	rows, none := 0, 0
	for range 3000 {
		l := deep(anyRow(t, r, 2+r.Intn(12)))
		for range r.Intn(3) {
			spoilByChance(r, l)
		}
		holds(t, "spoilt", l)
		if plainRow(l) {
			rows++
		} else {
			none++
		}
		if t.Failed() {
			return
		}
	}
	if rows < 200 || none < 200 {
		t.Errorf("%d rows, %d none: chance is one-sided", rows, none)
	}
}

func spoilByChance(r *rand.Rand, l []api.Type) {
	x := &l[r.Intn(len(l))]
	change := []int{-1, 1, 4, -4, r.Intn(30) - 15}[r.Intn(5)]
	if n := len(x.Fields); n > 0 && r.Intn(2) == 0 {
		f := &x.Fields[r.Intn(n)]
		switch r.Intn(3) {
		case 0:
			f.Name = fmt.Sprint(r.Intn(60))
		case 1:
			f.Type += change
		case 2:
			f.Off += change
		}
		return
	}
	*numbersOf(x)[r.Intn(6)] += change
}

func TestAnything(t *testing.T) { // R1, R2: whatever is handed in
	r := rand.New(rand.NewSource(15))
	number := func() int { return wild[r.Intn(len(wild))] }
	for range 3000 {
		l := Basic()[:8-min(1, r.Intn(10)/9)]
		for range r.Intn(5) {
			x := api.Type{Form: r.Intn(14) - 1}
			for _, n := range numbersOf(&x)[1:] {
				if r.Intn(2) == 0 {
					*n = number()
				}
			}
			for range r.Intn(3) * r.Intn(2) {
				x.Fields = append(x.Fields, api.Field{Name: fmt.Sprint(r.Intn(3)), Type: number(), Off: number()})
			}
			l = append(l, x)
		}
		holds(t, "anything", l)
		twoFit(t, l, number(), number())
		x := []api.Type{
			{Form: api.Array, Len: number(), Elem: number()},
			{Form: api.Open, Elem: number()},
			{Form: api.Record, Base: number(), Fields: []api.Field{{Name: "a", Type: number()}, {Name: "b", Type: number()}}},
			{Form: api.Pointer, Elem: number()},
		}[r.Intn(4)]
		m, at, e := addOf(l, x)
		want, f := plainAdd(l, x)
		if e != f || told(m) != told(want) || e != api.OK && at != 0 {
			t.Errorf("%s behind %s: %d, %v; want %v", told([]api.Type{x}), short(l), at, e, f)
		}
		if t.Failed() {
			return
		}
	}
}

// laidWell asks the first two sentences of 'What follows' of a record.
func laidWell(t *testing.T, l []api.Type, at int) {
	t.Helper()
	has := plainHas(l, at)
	for i, f := range has {
		end := f.Off + l[f.Type].Size
		if f.Off < 0 || end > l[at].Size || f.Off%Align(l, f.Type) != 0 {
			t.Errorf("record %d: %v outside, or at no place of its type: %s", at, f, short(l))
		}
		for _, g := range has[:i] {
			if f.Off < g.Off+l[g.Type].Size && g.Off < end {
				t.Errorf("record %d: %v over %v: %s", at, f, g, short(l))
			}
		}
	}
	for base := range l {
		if !Extends(l, at, base) {
			continue
		}
		for _, f := range plainHas(l, base) {
			if g, ok := Field(l, at, f.Name); g != f || !ok {
				t.Errorf("record %d extends %d, whose %v is %v, %v: %s", at, base, f, g, ok, short(l))
			}
		}
	}
}

func TestWhatFollows(t *testing.T) { // P11.9: fields' places
	r := rand.New(rand.NewSource(13))
	records := 0
	for range 200 {
		l := anyRow(t, r, 30)
		for at, x := range l {
			if x.Form == api.Record {
				laidWell(t, l, at)
				records++
			}
		}
		if t.Failed() {
			return
		}
	}
	if records < 1000 {
		t.Errorf("%d records: chance is one-sided", records)
	}
}

func TestExtendsIsAnOrder(t *testing.T) { // P11.9: each extends itself; what extends what extends, extends; no two Records each other
	r := rand.New(rand.NewSource(14))
	for range 60 {
		l := anyRow(t, r, 25)
		n := len(l)
		extends := make([][]bool, n)
		for a := range l {
			for b := range l {
				extends[a] = append(extends[a], Extends(l, a, b))
			}
		}
		for a := range l {
			if extends[a][a] != (l[a].Form == api.Record || l[a].Form == api.Pointer) {
				t.Errorf("%d and itself: %s", a, short(l))
			}
			for b := range l {
				if extends[a][b] && l[a].Form != l[b].Form || a != b && extends[a][b] && extends[b][a] && l[a].Elem != l[b].Elem {
					t.Errorf("%d and %d: %s", a, b, short(l))
				}
				if a != b && extends[a][b] && extends[b][a] && l[a].Form == api.Record {
					t.Errorf("%d and %d extend each other: %s", a, b, short(l))
				}
				for c := range l {
					if extends[a][b] && extends[b][c] && !extends[a][c] {
						t.Errorf("%d, %d, %d: %s", a, b, c, short(l))
					}
				}
			}
		}
		if t.Failed() {
			return
		}
	}
}
