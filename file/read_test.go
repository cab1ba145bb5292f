package file

import (
	"math"
	"slices"
	"strings"
	"testing"

	"carrel/api"
	"carrel/dir"
	"carrel/disk"
)

func TestExamples(t *testing.T) { // the chapter's table
	x, d := empty(t, 16)
	writes(t, x, "a", "hello")
	reads(t, x, "a", "hello")
	if l := d.Writes(); !slices.Equal(l, []int{0, 1, 2, 3, 0}) {
		t.Error(l)
	}
	writes(t, x, "b", some(1025, 1))
	if x.Free() != 9 {
		t.Error(x.Free())
	}
	writes(t, x, "b", "")
	if x.Free() != 11 {
		t.Error(x.Free())
	}
	refuses(t, x, "1", "..", api.ErrDirName)
	refuses(t, x, "c", some(256001, 1), api.ErrFileLong)
	refuses(t, x, "c", some(20000, 1), api.ErrDirDisk)
	if s, e := Read(x, "c"); s != "" || e != api.ErrDirNone {
		t.Error(s, e)
	}
	r, e := Open(x, "a", 4)
	if e != api.OK {
		t.Fatal(e)
	}
	if c, ok := r.Next(); c != 'o' || !ok {
		t.Error(c, ok)
	}
	if c, ok := r.Next(); c != 0 || ok || r.At() != 5 {
		t.Error(c, ok, r.At())
	}
	if r, e := Open(x, "a", 6); r != nil || e != api.ErrFileAt {
		t.Error(r, e)
	}
	if d, e := Make(8, []api.File{{Name: "a", Data: "x"}, {Name: "a", Data: "y"}}); d != nil || e != api.ErrDirHas {
		t.Error(d, e)
	}
	if d, e := Make(7, nil); d != nil || e != api.ErrDiskSize {
		t.Error(d, e)
	}
}

func TestReadOfNil(t *testing.T) { // P18.1, P18.2, P18.5: ErrNil stands ahead of all else
	for _, name := range []string{"a", "", "1", strings.Repeat("x", 5000)} {
		if s, e := Read(nil, name); s != "" || e != api.ErrNil {
			t.Error(name, s, e)
		}
		for _, at := range []int{0, -1, math.MaxInt} {
			if r, e := Open(nil, name, at); r != nil || e != api.ErrNil {
				t.Error(name, r, e)
			}
		}
		for _, length := range []int{0, 1, 256001} {
			if e := Write(nil, name, some(length, 0)); e != api.ErrNil {
				t.Error(name, e)
			}
		}
	}
}

func TestReadNone(t *testing.T) { // P18.1: ErrDirNone, of names that may not be, too
	x, d := empty(t, 16)
	writes(t, x, "b", "x")
	for _, name := range []string{"", "a", "B", "bb", "b\x00", "1", " b", strings.Repeat("b", 24), strings.Repeat("b", 100000), "é"} {
		for _, at := range []int{0, -1, 2} {
			if r, e := Open(x, name, at); r != nil || e != api.ErrDirNone {
				t.Error(name, r, e)
			}
		}
		if s, e := Read(x, name); s != "" || e != api.ErrDirNone {
			t.Error(name, s, e)
		}
	}
	x.Delete("b")
	if s, e := Read(x, "b"); s != "" || e != api.ErrDirNone {
		t.Error(s, e)
	}
	if len(d.Writes()) != 6 { // Format, 4 of Write, 1 of Delete
		t.Error(d.Writes())
	}
}

func TestReadAnyLength(t *testing.T) { // P18.1, P18.2, P18.5: what was written is read
	x, d := empty(t, 600)
	for _, length := range []int{0, 1, 2, 1023, 1024, 1025, 2047, 2048, 2049, 102400, 254976, 254977, 255999, 256000} {
		data := some(length, length)
		writes(t, x, "a", data)
		reads(t, x, "a", data)
		reads(t, opens(t, d), "a", data)
		if e := entry(t, x, "a"); e.Len != length {
			t.Error(e)
		}
		var got []byte
		r, e := Open(x, "a", 0)
		if e != api.OK {
			t.Fatal(e)
		}
		for c, ok := r.Next(); ok; c, ok = r.Next() {
			got = append(got, c)
		}
		if string(got) != data || r.At() != length {
			t.Error(length, len(got), r.At())
		}
	}
}

func TestReadAnyByte(t *testing.T) { // noughts, too, at the end and alone
	x, _ := empty(t, 16)
	var all []byte
	for c := range 256 {
		all = append(all, byte(c))
	}
	for _, data := range []string{string(all), "\x00", strings.Repeat("\x00", 1024), "a" + strings.Repeat("\x00", 1024), "CFH1", "\n", "é"} {
		writes(t, x, "a", data)
		reads(t, x, "a", data)
	}
}

func TestReadBroken(t *testing.T) { // P18.1: ErrFileForm, unless the header is one now
	x, d := empty(t, 16)
	writes(t, x, "a", some(1500, 1)) // 1, 2; 3; 4
	writes(t, x, "b", "other")       // 5; 6; 7
	writes(t, x, "n", "")            // 4; 8, the leaf 8 is free then
	for _, one := range []struct {
		what string
		name string
		page []byte
	}{
		{"noughts", "a", page(0)},
		{"another mark", "a", page(0, cdl1, 1500, 1, 2)},
		{"a root's mark", "a", page(0, cdr1, 1500, 1, 2)},
		{"a mark that is turned", "a", page(0, 0x43464831, 1500, 1, 2)},
		{"a length less", "a", headerPage(0, 1499, 1, 2)},
		{"a length more", "a", headerPage(0, 1501, 1, 2)},
		{"no length", "a", headerPage(0, 0)},
		{"a length of another byte", "a", headerPage(0, 1500+1<<24, 1, 2)},
		{"the greatest length", "a", headerPage(0, -1, 1, 2)},
		{"the first sector is not the disk's", "a", headerPage(0, 1500, 16, 2)},
		{"the last sector is not the disk's", "a", headerPage(0, 1500, 1, 16)},
		{"sectors of the greatest numbers", "a", headerPage(0, 1500, -1, -1)},
		{"a sector with a sign", "a", headerPage(0, 1500, 1, math.MinInt32)},
		{"noughts of a file without bytes", "n", page(0)},
		{"a length of a file without bytes", "n", headerPage(0, 1, 1)},
	} {
		header := entry(t, x, one.name).Header
		whole, _ := d.Read(header)
		want, _ := Read(x, one.name)
		lay(t, d, header, one.page)
		if s, e := Read(x, one.name); s != "" || e != api.ErrFileForm {
			t.Errorf("%s: %d bytes, %v", one.what, len(s), e)
		}
		for _, at := range []int{0, -1, 1501} { // ahead of ErrFileAt
			if r, e := Open(x, one.name, at); r != nil || e != api.ErrFileForm {
				t.Errorf("%s: Open: %v, %v", one.what, r, e)
			}
		}
		if l, e := Map(d); l != nil || e != api.ErrDirForm {
			t.Errorf("%s: Map: %v, %v", one.what, l, e)
		}
		reads(t, x, "b", "other") // others are as they were
		lay(t, d, header, whole)
		reads(t, x, one.name, want) // and so is it, when its header is one again
	}
}

func TestReadNow(t *testing.T) { // P18.1: what the header names now, and has now
	x, d := empty(t, 16)
	data := some(1500, 1)
	writes(t, x, "a", data)
	header := entry(t, x, "a").Header
	lay(t, d, header, headerPage(0, 1500, 2, 1))
	first, second := data[:1024], data[1024:]+strings.Repeat("\x00", 548)
	reads(t, x, "a", second+first[:476])
	lay(t, d, header, headerPage(0, 1500, 1, 1)) // any that the disk has
	reads(t, x, "a", first+first[:476])
	lay(t, d, header, headerPage(0, 1500, 15, 0))
	lay(t, d, 15, []byte(some(1024, 9)))
	root, _ := d.Read(0)
	reads(t, x, "a", some(1024, 9)+string(root[:476]))
	lay(t, d, header, headerPage(0xFF, 1500, 1, 2)) // what stands behind is not looked at
	reads(t, x, "a", data)
	lay(t, d, 2, page('x'))
	reads(t, x, "a", first+strings.Repeat("x", 476))
}

func TestReadBehindRename(t *testing.T) { // 'What follows'
	x, _ := empty(t, 20)
	writes(t, x, "a", "one")
	writes(t, x, "b", "two")
	if e := x.Rename("a", "c"); e != api.OK {
		t.Fatal(e)
	}
	reads(t, x, "c", "one")
	reads(t, x, "b", "two")
	if s, e := Read(x, "a"); s != "" || e != api.ErrDirNone {
		t.Error(s, e)
	}
	writes(t, x, "a", "three")
	reads(t, x, "a", "three")
	reads(t, x, "c", "one")
}

func TestReadWritesNothing(t *testing.T) {
	x, d := having(t, 30, []api.File{{Name: "a", Data: some(3000, 1)}, {Name: "b"}})
	ahead := stateOf(t, x)
	for _, name := range []string{"a", "b", "c"} {
		Read(x, name)
		r, _ := Open(x, name, 0)
		r.Next()
		Map(d)
	}
	if ahead.wrote != 0 {
		t.Error(ahead.wrote)
	}
	unchanged(t, "nothing", x, api.OK, func() api.Errno { return api.OK })
	if s := stateOf(t, x); !slices.Equal(s.free, ahead.free) || s.wrote != 0 {
		t.Error("something has changed")
	}
}

func TestDirThatNoCallGave(t *testing.T) { // no panic: it has no disk
	x := &dir.Dir{}
	if s, e := Read(x, "a"); s != "" || e != api.ErrDirNone {
		t.Error(s, e)
	}
	if r, e := Open(x, "a", 0); r != nil || e != api.ErrDirNone {
		t.Error(r, e)
	}
	for _, data := range []string{"", "x", some(256000, 0)} {
		if e := Write(x, "a", data); e != api.ErrDirDisk {
			t.Error(e)
		}
	}
	if l, e := Map(&disk.Disk{}); l != nil || e != api.ErrDirForm {
		t.Error(l, e)
	}
}
