package types

import (
	"slices"

	"carrel/api"
)

// What is made here is made as the type behind those that a row has.

func basic(at int) api.Type { return api.Type{Form: at, Size: basicSizes[at]} }

func (r *row) array(n, elem int) (api.Type, api.Errno) {
	if n < 1 || n > api.MaxSize || !r.isThings(elem) {
		return api.Type{}, api.ErrTypesForm
	}
	return held(api.Type{Form: api.Array, Len: n, Elem: elem, Size: n * r.types[elem].Size})
}

func (r *row) open(elem int) (api.Type, api.Errno) {
	if !r.isThings(elem) {
		return api.Type{}, api.ErrTypesForm
	}
	return api.Type{Form: api.Open, Elem: elem}, api.OK
}

func (r *row) pointer(record int) (api.Type, api.Errno) {
	inList := 0 <= record && record < len(r.list)
	if record != 0 && !(inList && r.list[record].Form == api.Record) {
		return api.Type{}, api.ErrTypesForm
	}
	return api.Type{Form: api.Pointer, Elem: record, Size: pointerSize}, api.OK
}

// record lays out fields; where they have been until now is not looked at.
func (r *row) record(base int, fields []api.Field) (api.Type, api.Errno) {
	t := api.Type{Form: api.Record, Base: base}
	if base != 0 {
		if !r.is(base, api.Record) || r.types[base].Level == api.MaxLevel {
			return api.Type{}, api.ErrTypesForm
		}
		t.Level = r.types[base].Level + 1
		t.Size = r.types[base].Size
	}
	if len(fields) > api.MaxVars || !r.takeNames(base, fields) {
		return api.Type{}, api.ErrTypesForm
	}
	t.Fields = slices.Grow(t.Fields, len(fields))
	for _, f := range fields {
		if !r.isThings(f.Type) {
			return api.Type{}, api.ErrTypesForm
		}
		f.Off = roundUp(t.Size, r.aligns[f.Type])
		t.Fields = append(t.Fields, f)
		t.Size = f.Off + r.types[f.Type].Size
	}
	t.Size = roundUp(t.Size, wordAlign)
	return held(t)
}

// takeNames keeps the names of the next type's own fields; false, if one is there twice, or is one that the base has.
func (r *row) takeNames(base int, fields []api.Field) bool {
	own := make(nameSet, len(fields))
	for _, f := range fields {
		own[f.Name] = struct{}{}
		if r.hasName(base, f.Name) {
			return false
		}
	}
	r.names[len(r.types)] = own
	return len(own) == len(fields)
}

// hasName: has a record, or one that it extends, a field of that name?
func (r *row) hasName(t int, name string) bool {
	for record := range r.upFrom(t) {
		if _, has := r.names[record][name]; has {
			return true
		}
	}
	return false
}

// held is a type, if it is not too large.
func held(t api.Type) (api.Type, api.Errno) {
	if t.Size > api.MaxSize {
		return api.Type{}, api.ErrTypesSize
	}
	return t, api.OK
}

func roundUp(n, align int) int { return (n + align - 1) / align * align }
