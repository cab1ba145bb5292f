package link

import (
	"reflect"
	"slices"
	"testing"

	"carrel/api"
)

// roomy gives a list spare room, with something in it.
func roomy[T any](l []T, x T) []T { return append(slices.Clone(l), x, x)[:len(l)] }

// roomyObject is an object whose lists all have spare room.
func roomyObject(o api.Object) api.Object {
	o.Imports, o.Code = roomy(o.Imports, api.Import{Name: "room"}), roomy(o.Code, 77)
	o.Procs, o.Names, o.Exports = roomy(o.Procs, 77), roomy(o.Names, "room"), roomy(o.Exports, true)
	o.Vars, o.Shown, o.Strings = roomy(o.Vars, 77), roomy(o.Shown, 77), roomy(o.Strings, "room")
	o.Descs, o.Fixes = roomy(o.Descs, api.Desc{Type: 77}), roomy(o.Fixes, api.Fix{At: 77})
	for i := range o.Descs {
		o.Descs[i].Tags = roomy(o.Descs[i].Tags, 77)
	}
	return o
}

// roomOf is an object with all of its spare room.
func roomOf(o api.Object) api.Object {
	o = copied(api.Object{
		Imports: o.Imports[:cap(o.Imports)], Code: o.Code[:cap(o.Code)], Procs: o.Procs[:cap(o.Procs)], Names: o.Names[:cap(o.Names)], Exports: o.Exports[:cap(o.Exports)],
		Vars: o.Vars[:cap(o.Vars)], Shown: o.Shown[:cap(o.Shown)], Strings: o.Strings[:cap(o.Strings)], Descs: o.Descs[:cap(o.Descs)], Fixes: o.Fixes[:cap(o.Fixes)],
	})
	for i := range o.Descs {
		o.Descs[i].Tags = slices.Clone(o.Descs[i].Tags[:cap(o.Descs[i].Tags)])
	}
	return o
}

func TestWhatIsHandedInStays(t *testing.T) { // P16.4
	for _, l := range [][]api.Object{{user(), library()}, {library(), user()}, {user()}, {library(), library()}, {one("A", "B"), one("B", "A")}, {trapper("T", true, "Trap")}, {fixed(api.FixVar, []uint32{0, 0})}, {{Name: "no object"}}} {
		for i := range l {
			l[i] = roomyObject(l[i])
		}
		l = roomy(l, one("Room"))
		var whole, rooms []api.Object
		for _, o := range l[:cap(l)] {
			whole, rooms = append(whole, copied(o)), append(rooms, roomOf(o))
		}
		Order(l)
		Boot(l)
		Prog(l)
		for i, o := range l[:cap(l)] {
			if !reflect.DeepEqual(copied(o), whole[i]) || !reflect.DeepEqual(roomOf(o), rooms[i]) {
				t.Errorf("object %d, %s, was written into", i, o.Name)
			}
		}
	}
}

func TestAnswersAreNewMemory(t *testing.T) { // P16.4, R4: nothing is kept, nothing is shared
	l := []api.Object{user(), library()}
	order, _, _ := Order(l)
	image, _, _ := Boot(l)
	file, _, _ := Prog(l)
	orderWas, imageWas, fileWas := slices.Clone(order), slices.Clone(image.Words), slices.Clone(file)
	again := func(what string) {
		t.Helper()
		order, _, _ := Order(l)
		image, _, _ := Boot(l)
		file, _, _ := Prog(l)
		if !slices.Equal(order, orderWas) || !slices.Equal(image.Words, imageWas) || !slices.Equal(file, fileWas) {
			t.Errorf("%s: another answer", what)
		}
		clear(order[:cap(order)])
		clear(image.Words[:cap(image.Words)])
		clear(file[:cap(file)])
	}
	again("again")
	again("when answers were written into")
	for i := range l {
		clear(l[i].Code)
		clear(l[i].Fixes)
		clear(l[i].Strings)
		clear(l[i].Descs)
		clear(l[i].Procs)
		clear(l[i].Names)
	}
	clear(l)
	if !slices.Equal(order, orderWas) || !slices.Equal(image.Words, imageWas) || !slices.Equal(file, fileWas) {
		t.Error("an answer changed with what was handed in")
	}
	l = []api.Object{user(), library()}
	again("anew")
}
