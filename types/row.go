package types

import (
	"iter"
	"slices"

	"carrel/api"
)

// basicSizes are those of the first eight types, by their forms, which are their places.
var basicSizes = [...]int{0, 4, 1, 1, 1, 4, 4, 0}

const (
	pointerSize = 4
	wordAlign   = 4
)

// row is as much of a list of types as was found to be one.
type row struct {
	list   []api.Type // all of it: a Pointer's Record may be still to come
	types  []api.Type // what was found, in memory of its own
	aligns []int      // of each of types; 0: it is no thing's
	names  []nameSet  // of each of types' own fields, so that hundreds of them aren't held against hundreds one by one
}

type nameSet map[string]struct{}

// read goes through a list; false, if it is no row. A type is right where it stands, if it is what would be made of it there.
func read(l []api.Type) (*row, bool) {
	n := len(l) + 1 // one more may be made
	r := &row{list: l, types: make([]api.Type, 0, n), aligns: make([]int, 0, n), names: make([]nameSet, n)}
	var made api.Type
	var e api.Errno
types:
	for at, t := range l {
		switch {
		case at < len(basicSizes):
			made, e = basic(at), api.OK
		case t.Form == api.Array:
			made, e = r.array(t.Len, t.Elem)
		case t.Form == api.Open:
			made, e = r.open(t.Elem)
		case t.Form == api.Record:
			made, e = r.record(t.Base, t.Fields)
		case t.Form == api.Pointer:
			made, e = r.pointer(t.Elem)
		default:
			break types
		}
		if e != api.OK || !same(made, t) {
			break types
		}
		r.types = append(r.types, made)
		r.aligns = append(r.aligns, r.alignOf(made))
	}
	return r, len(l) >= len(basicSizes) && len(r.types) == len(l)
}

func same(a, b api.Type) bool {
	return a.Form == b.Form && a.Len == b.Len && a.Elem == b.Elem && a.Base == b.Base &&
		a.Size == b.Size && a.Level == b.Level && slices.Equal(a.Fields, b.Fields)
}

func (r *row) alignOf(t api.Type) int {
	switch t.Form {
	case api.Boolean, api.Char, api.Byte:
		return 1
	case api.Integer, api.Set, api.Record, api.Pointer:
		return wordAlign
	case api.Array:
		return r.aligns[t.Elem]
	}
	return 0
}

func (r *row) has(t int) bool { return 0 <= t && t < len(r.types) }

func (r *row) is(t, form int) bool { return r.has(t) && r.types[t].Form == form }

// isThings: may variables be of that type?
func (r *row) isThings(t int) bool { return r.has(t) && r.aligns[t] != 0 }

func (r *row) isNumber(t int) bool { return r.is(t, api.Integer) || r.is(t, api.Byte) }

// upFrom goes through a record and those that it extends; from 0 through none.
func (r *row) upFrom(t int) iter.Seq[int] {
	return func(yield func(int) bool) {
		for at := t; at != 0 && yield(at); {
			at = r.types[at].Base
		}
	}
}
