package types

import "carrel/api"

// What the chapter says, told once more, word by word and with no thought of speed.

var plainBasic = []api.Type{
	{Form: 0, Size: 0}, {Form: 1, Size: 4}, {Form: 2, Size: 1}, {Form: 3, Size: 1},
	{Form: 4, Size: 1}, {Form: 5, Size: 4}, {Form: 6, Size: 4}, {Form: 7, Size: 0},
}

func plainPlace(l []api.Type, t int) bool { return t >= 0 && t < len(l) }

func plainForm(l []api.Type, t int) int {
	if !plainPlace(l, t) {
		return -1
	}
	return l[t].Form
}

func plainThing(l []api.Type, t int) bool {
	switch plainForm(l, t) {
	case 1, 2, 3, 4, 5, 8, 10, 11:
		return true
	}
	return false
}

func plainAlign(l []api.Type, t int) int {
	switch l[t].Form {
	case 2, 3, 4:
		return 1
	case 8:
		return plainAlign(l, l[t].Elem)
	}
	return 4
}

func plainRow(l []api.Type) bool {
	if len(l) < 8 {
		return false
	}
	for i, t := range l {
		if i < 8 {
			b := plainBasic[i]
			if t.Form != b.Form || t.Size != b.Size || t.Len != 0 || t.Elem != 0 || t.Base != 0 || t.Level != 0 || len(t.Fields) != 0 {
				return false
			}
		} else if !plainOne(l, i) {
			return false
		}
	}
	return true
}

// plainOne: is the type at i, behind the first eight, one of the table's rows, if all ahead of it are?
func plainOne(l []api.Type, i int) bool {
	t, ahead := l[i], l[:i]
	if t.Size < 0 || t.Size > 16384 {
		return false
	}
	if t.Form != 10 && (t.Base != 0 || t.Level != 0 || len(t.Fields) != 0) {
		return false
	}
	if t.Form != 8 && t.Len != 0 {
		return false
	}
	switch t.Form {
	case 8:
		return t.Len >= 1 && t.Len <= 16384 && plainThing(ahead, t.Elem) && t.Size == t.Len*ahead[t.Elem].Size
	case 9:
		return plainThing(ahead, t.Elem) && t.Size == 0
	case 10:
		return t.Elem == 0 && plainRecord(ahead, t)
	case 11:
		return (t.Elem == 0 || plainForm(l, t.Elem) == 10) && t.Size == 4
	}
	return false
}

func plainRecord(ahead []api.Type, t api.Type) bool {
	level, end := 0, 0
	if t.Base != 0 {
		if plainForm(ahead, t.Base) != 10 {
			return false
		}
		level, end = ahead[t.Base].Level+1, ahead[t.Base].Size
	}
	if t.Level != level || level > 3 || len(t.Fields) > 200 {
		return false
	}
	var has []api.Field
	if t.Base != 0 {
		has = plainHas(ahead, t.Base)
	}
	for _, f := range t.Fields {
		for _, other := range has {
			if other.Name == f.Name {
				return false
			}
		}
		has = append(has, f)
		if !plainThing(ahead, f.Type) {
			return false
		}
		for end%plainAlign(ahead, f.Type) != 0 {
			end++
		}
		if f.Off != end {
			return false
		}
		end += ahead[f.Type].Size
	}
	for end%4 != 0 {
		end++
	}
	return t.Size == end
}

// plainHas is what a record has: what its base has, and its own fields.
func plainHas(l []api.Type, t int) []api.Field {
	var has []api.Field
	if l[t].Base != 0 {
		has = plainHas(l, l[t].Base)
	}
	return append(has, l[t].Fields...)
}

func plainRight(l []api.Type) bool {
	for _, t := range l {
		if t.Form == 11 && t.Elem == 0 {
			return false
		}
	}
	return plainRow(l)
}

func plainExtends(l []api.Type, t, base int) bool {
	switch {
	case !plainRow(l) || !plainPlace(l, t) || !plainPlace(l, base):
		return false
	case l[t].Form == 10 && l[base].Form == 10:
		return t == base || l[t].Base != 0 && plainExtends(l, l[t].Base, base)
	case l[t].Form == 11 && l[base].Form == 11:
		return t == base || l[t].Elem != 0 && l[base].Elem != 0 && plainExtends(l, l[t].Elem, l[base].Elem)
	}
	return false
}

func plainAssigns(l []api.Type, from, to int) bool {
	if !plainRow(l) || !plainPlace(l, from) || !plainThing(l, to) {
		return false
	}
	f, g := l[from].Form, l[to].Form
	return from == to || f == 1 && g == 4 || f == 4 && g == 1 || f == 6 && g == 11 ||
		f == 11 && g == 11 && plainExtends(l, from, to) || f == 7 && g == 8 && l[l[to].Elem].Form == 3
}

func plainPasses(l []api.Type, from, to int, ref bool) bool {
	if !plainRow(l) || !plainPlace(l, from) || !plainPlace(l, to) {
		return false
	}
	if l[to].Form == 9 {
		switch l[from].Form {
		case 8, 9:
			return l[from].Elem == l[to].Elem
		case 7:
			return l[l[to].Elem].Form == 3 && !ref
		}
		return false
	}
	if ref {
		return plainThing(l, to) && from == to
	}
	return plainAssigns(l, from, to)
}

func plainCompares(l []api.Type, a, b int, order bool) bool {
	if !plainRow(l) || !plainPlace(l, a) || !plainPlace(l, b) {
		return false
	}
	f, g := l[a].Form, l[b].Form
	if (f == 1 || f == 4) && (g == 1 || g == 4) || f == 3 && g == 3 {
		return true
	}
	if order {
		return false
	}
	return f == 2 && g == 2 || f == 5 && g == 5 || f == 6 && (g == 6 || g == 11) || g == 6 && f == 11 ||
		f == 11 && g == 11 && (plainExtends(l, a, b) || plainExtends(l, b, a))
}

// plainAdd lays a type whose size, level and offsets are not told yet behind others: the errors that the chapter has for it.
func plainAdd(l []api.Type, t api.Type) ([]api.Type, api.Errno) {
	if !plainRow(l) || len(l) >= 200 {
		return nil, api.ErrTypesForm
	}
	switch t.Form {
	case 8:
		if t.Len < 1 || t.Len > 16384 || !plainThing(l, t.Elem) {
			return nil, api.ErrTypesForm
		}
		t.Size = t.Len * l[t.Elem].Size
	case 9:
		if !plainThing(l, t.Elem) {
			return nil, api.ErrTypesForm
		}
	case 11:
		if t.Elem != 0 && plainForm(l, t.Elem) != 10 {
			return nil, api.ErrTypesForm
		}
		t.Size = 4
	case 10:
		var ok bool
		if t, ok = plainLaid(l, t); !ok {
			return nil, api.ErrTypesForm
		}
	}
	if t.Size > 16384 {
		return nil, api.ErrTypesSize
	}
	return append(append([]api.Type{}, l...), t), api.OK
}

// plainLaid gives a record its level, offsets and size; false, if its base, its names or its fields' types may not be.
func plainLaid(l []api.Type, t api.Type) (api.Type, bool) {
	seen := map[string]bool{}
	if t.Base != 0 {
		if plainForm(l, t.Base) != 10 {
			return t, false
		}
		t.Level, t.Size = l[t.Base].Level+1, l[t.Base].Size
		for _, f := range plainHas(l, t.Base) {
			seen[f.Name] = true
		}
	}
	fields := append([]api.Field{}, t.Fields...)
	for i, f := range fields {
		if seen[f.Name] || !plainThing(l, f.Type) {
			return t, false
		}
		seen[f.Name] = true
		for t.Size%plainAlign(l, f.Type) != 0 {
			t.Size++
		}
		fields[i].Off = t.Size
		t.Size += l[f.Type].Size
	}
	for t.Size%4 != 0 {
		t.Size++
	}
	t.Fields = fields
	return t, t.Level <= 3 && len(fields) <= 200
}
