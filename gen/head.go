package gen

import (
	"slices"

	"carrel/api"
	"carrel/sym"
	"carrel/types"
)

// head is a module's object, but for its code.
func head(m *api.Mod) api.Object {
	shown, e := sym.Of(*m)
	must(e == api.OK)
	key, e := sym.Key(shown)
	must(e == api.OK)
	must(types.Right(m.Types) && len(m.Procs) <= api.MaxProcs)
	o := api.Object{
		Name:    m.Name,
		Key:     key,
		Imports: slices.Clone(m.Imports),
		Strings: slices.Clone(m.Strings),
		Descs:   descs(m.Types),
	}
	for _, p := range m.Procs {
		o.Names = append(o.Names, p.Name)
		o.Exports = append(o.Exports, p.Export)
	}
	for i, v := range m.Vars {
		o.Vars = append(o.Vars, max(m.Types[v.Type].Size, 1)) // each has an address of its own
		if v.Export {
			o.Shown = append(o.Shown, i)
		}
	}
	return o
}

// descs are the descriptors of a row's Records.
func descs(row []api.Type) []api.Desc {
	var l []api.Desc
	for at, t := range row {
		if t.Form == api.Record {
			l = append(l, api.Desc{Type: at, Size: t.Size, Tags: tags(row, at)})
		}
	}
	return l
}

// tags are a Record's bases, from the one that extends none on, and itself.
func tags(row []api.Type, record int) []int {
	var l []int
	for at := record; at != 0; at = row[at].Base {
		l = append(l, at)
	}
	slices.Reverse(l)
	return l
}
