package dir

import (
	"encoding/binary"
	"math"
	"slices"
	"strings"
	"testing"

	"carrel/api"
	"carrel/disk"
)

func TestInsertLays(t *testing.T) { // P17.4, 'To lay entries': what is written where, noughts behind
	x, d := empty(t, 100)
	var entries []api.Entry
	for n := range 31 {
		entries = append(entries, adds(t, x, nth(n), n%3))
	}
	one, _ := ready(t, x, "e", 0) // ahead of all
	free := stateOf(t, x).free
	from := len(d.Writes())
	if e := x.Insert(one); e != api.OK {
		t.Fatal(e)
	}
	entries = slices.Insert(entries, 0, one)
	if w := wrote(d, from); !slices.Equal(w, []int{free[0], free[1], 0}) {
		t.Error(w, free)
	}
	sectorIs(t, d, free[0], leafPage(0, entries[:31]...))
	sectorIs(t, d, free[1], leafPage(0, entries[31:]...))
	sectorIs(t, d, 0, rootPage(0, free[0], free[1]))
	p, _ := plainRead(d.Image())
	p.agrees(t, x)
}

func TestInsertWritesOverAll(t *testing.T) { // noughts behind, whatever stood there
	d, _ := disk.From(slices.Repeat([]byte{0xDD}, 16*1024))
	Format(d)
	x := opens(t, d)
	one := adds(t, x, "a", 1)
	sectorIs(t, d, 3, leafPage(0, one))
	sectorIs(t, d, 0, rootPage(0, 3))
}

func TestInsertInPlace(t *testing.T) { // P17.4: in the place of one of its name, whose sectors are free behind that
	x, d := empty(t, 20)
	adds(t, x, "b", 0)
	old, sectors := ready(t, x, "a", 2000)
	if e := x.Insert(old); e != api.OK {
		t.Fatal(e)
	}
	next, _ := ready(t, x, "a", 1)
	free := stateOf(t, x).free
	from := len(d.Writes())
	leaf := x.leaves[0]
	if e := x.Insert(next); e != api.OK {
		t.Fatal(e)
	}
	if w := wrote(d, from); !slices.Equal(w, []int{free[0], 0}) { // none of those that are free only behind that
		t.Error(w)
	}
	if f, e := x.Find("a"); f != next || e != api.OK || len(x.All()) != 2 {
		t.Error(x.All())
	}
	want := append(slices.Clone(free[1:]), append(sectors, leaf)...)
	slices.Sort(want)
	if got := stateOf(t, x).free; !slices.Equal(got, want) {
		t.Error(got, want)
	}
}

func TestInsertRefusesNames(t *testing.T) { // P17.4: ahead of all else
	x, _ := empty(t, 16)
	one, _ := ready(t, x, "", 1)
	for _, name := range []string{"", "1", "_a", ".a", "a b", "a-", "a\x00", "a\n", strings.Repeat("x", 24), strings.Repeat("x", 5000), "é"} {
		one.Name = name
		unchanged(t, name, x, api.ErrDirName, func() api.Errno { return x.Insert(one) })
		unchanged(t, name, x, api.ErrDirName, func() api.Errno { return x.Insert(api.Entry{Name: name, Header: -1, Len: -1}) })
	}
	for _, name := range []string{"a", strings.Repeat("x", 23), "Z._9"} {
		one, _ := ready(t, x, name, 1)
		if e := x.Insert(one); e != api.OK {
			t.Error(name, e)
		}
	}
}

func TestInsertRefusesHeaders(t *testing.T) { // P17.4: ErrArg; 1 to 3 are taken, 4 is a file's header, 5 its data, 6 the leaf, 7 was given back, all others are free
	for _, one := range []struct {
		what   string
		length int
		words  []uint32
	}{
		{"another mark", 0, []uint32{cdl1, 0}},
		{"a root's mark", 0, []uint32{cdr1, 0}},
		{"a mark that is turned", 0, []uint32{0x43464831, 0}},
		{"noughts", 0, nil},
		{"a length more", 1024, []uint32{cfh1, 1025, 2, 3}},
		{"a length less", 1025, []uint32{cfh1, 1024, 2, 3}},
		{"a length below 0", -1, []uint32{cfh1, 0xFFFFFFFF}},
		{"the same as a word", 0xFFFFFFFF, []uint32{cfh1, 0xFFFFFFFF}},
		{"a length beyond a word", 1<<32 + 5, []uint32{cfh1, 5, 2}},
		{"a length that is 0", 5, []uint32{cfh1, 0, 2}},
		{"data that was not taken", 1, []uint32{cfh1, 1, 8}},
		{"data that was given back", 1, []uint32{cfh1, 1, 7}},
		{"data that is the root", 1, []uint32{cfh1, 1, 0}},
		{"data that is a file's header", 1, []uint32{cfh1, 1, 4}},
		{"data that is a file's", 1, []uint32{cfh1, 1, 5}},
		{"data that is a leaf", 1, []uint32{cfh1, 1, 6}},
		{"the second data sector was not taken", 1025, []uint32{cfh1, 1025, 2, 9}},
		{"the second data sector is not there", 1025, []uint32{cfh1, 1025, 2}},
		{"data that the disk has not", 1, []uint32{cfh1, 1, 16}},
		{"data of the greatest number", 1, []uint32{cfh1, 1, 0xFFFFFFFF}},
		{"data twice", 1025, []uint32{cfh1, 1025, 3, 3}}, // else the disk would have no directory
		{"data that is the header", 1, []uint32{cfh1, 1, 1}},
	} {
		x, d := empty(t, 16)
		takes(t, x, 3)
		adds(t, x, "b", 1)
		takes(t, x, 1)
		x.Give(7)
		write(t, d, 1, page(0, one.words...))
		unchanged(t, one.what, x, api.ErrArg, func() api.Errno { return x.Insert(api.Entry{Name: "a", Header: 1, Len: one.length}) })
	}
}

func TestInsertRefusesSectors(t *testing.T) { // P17.4: a Header that was not taken
	x, d := empty(t, 16)
	one := adds(t, x, "a", 3) // 1, 2, the leaf 3
	takes(t, x, 2)
	x.Give(4)
	for n := range 16 {
		if n != 0 && n != 3 {
			write(t, d, n, headerPage(0, 0))
		}
	}
	for _, n := range append(strangers(16), 1, 2, 3, 4, 6, 15) {
		unchanged(t, "not taken", x, api.ErrArg, func() api.Errno { return x.Insert(api.Entry{Name: "b", Header: n}) })
		unchanged(t, "in place", x, api.ErrArg, func() api.Errno { return x.Insert(api.Entry{Name: "a", Header: n}) })
	}
	unchanged(t, "again", x, api.ErrArg, func() api.Errno { return x.Insert(one) })
	if e := x.Insert(api.Entry{Name: "b", Header: 5}); e != api.OK {
		t.Error(e)
	}
}

func TestInsertOfAnyLength(t *testing.T) { // P17.4: 0 to MaxFile; what stands behind the data's sectors is not looked at
	x, d := empty(t, 300)
	l := takes(t, x, 252)
	for _, length := range []int{0, 1, 1023, 1024, 1025, 255999, 256000} {
		data := slices.Clone(l[1:])
		for i := (length + 1023) / 1024; i < len(data); i++ {
			data[i] = 9999
		}
		write(t, d, 1, headerPage(0x77, length, data...))
		y := opens(t, d)
		takes(t, y, 252)
		if e := y.Insert(api.Entry{Name: "a", Header: 1, Len: length}); e != api.OK {
			t.Fatal(length, e)
		}
		p, ok := plainRead(d.Image())
		if !ok || len(p.files) != 1 || len(p.files["a"].sectors) != 1+(length+1023)/1024 {
			t.Error(length, p)
		}
		if e := y.Delete("a"); e != api.OK {
			t.Fatal(e)
		}
	}
	for _, length := range []int{256001, 257024, math.MaxInt32} {
		write(t, d, 1, headerPage(0, length, l[1:]...))
		unchanged(t, "too long", x, api.ErrArg, func() api.Errno { return x.Insert(api.Entry{Name: "a", Header: 1, Len: length}) })
	}
}

func TestInsertFull(t *testing.T) { // P17.4: ErrDirFull
	d := full(t, 230, 199)
	x := opens(t, d)
	last := adds(t, x, "last", 0) // 230 - 1 - 7 - 200 = 22 are free
	if x.Free() != 22 || len(x.All()) != 200 {
		t.Fatal(x.Free(), len(x.All()))
	}
	one, _ := ready(t, x, "g", 0)
	unchanged(t, "a file more", x, api.ErrDirFull, func() api.Errno { return x.Insert(one) })
	one.Name = "1"
	unchanged(t, "ErrDirName", x, api.ErrDirName, func() api.Errno { return x.Insert(one) })
	last.Name = "g"
	unchanged(t, "ErrArg", x, api.ErrArg, func() api.Errno { return x.Insert(last) })
	one.Name = nth(7)
	if e := x.Insert(one); e != api.OK { // in the place of another one
		t.Error(e)
	}
	p, _ := plainRead(d.Image())
	p.agrees(t, x)
	one, _ = ready(t, x, "g", 0)
	takes(t, x, x.Free())
	wear(t, d, 0)
	unchanged(t, "ahead of ErrDirDisk", x, api.ErrDirFull, func() api.Errno { return x.Insert(one) })
	one.Name = nth(8)
	unchanged(t, "ErrDirDisk", x, api.ErrDirDisk, func() api.Errno { return x.Insert(one) })
}

// change is one that lays leaves; do needs a sector that is taken, if it is an Insert.
type change struct {
	what   string
	files  int // that there are ahead
	leaves int // that are laid
	do     func(x *Dir, header int) api.Errno
}

func changes() []change {
	insert := func(name string) func(*Dir, int) api.Errno {
		return func(x *Dir, header int) api.Errno { return x.Insert(api.Entry{Name: name, Header: header}) }
	}
	remove := func(x *Dir, _ int) api.Errno { return x.Delete(nth(0)) }
	rename := func(x *Dir, _ int) api.Errno { return x.Rename(nth(0), "z") }
	return []change{
		{"the first file", 0, 1, insert("a")},
		{"the 31st file", 30, 1, insert("a")},
		{"the 32nd file", 31, 2, insert("a")},
		{"the 31st file, anew", 31, 1, insert(nth(30))},
		{"the 63rd file", 62, 3, insert("z")},
		{"the 187th file", 186, 7, insert("z")},
		{"the 200th file", 199, 7, insert("z")},
		{"the 200th file, anew", 200, 7, insert(nth(199))},
		{"the last file goes", 1, 0, remove},
		{"one of 2 files goes", 2, 1, remove},
		{"one of 32 files goes", 32, 1, remove},
		{"one of 33 files goes", 33, 2, remove},
		{"one of 187 files goes", 187, 6, remove},
		{"one of 200 files goes", 200, 7, remove},
		{"one file has another name", 1, 1, rename},
		{"one of 31 files has another name", 31, 1, rename},
		{"one of 32 files has another name", 32, 2, rename},
		{"one of 200 files has another name", 200, 7, rename},
	}
}

// prepared is a Dir ahead of a change, with so many free sectors, on a disk that bears so many writes more.
func prepared(t *testing.T, c change, free, writes int) (*Dir, int) {
	t.Helper()
	d := full(t, 240, c.files)
	x := opens(t, d)
	header := takes(t, x, 1)[0]
	write(t, d, header, headerPage(0, 0))
	takes(t, x, x.Free()-free)
	wear(t, d, writes)
	return x, header
}

func TestFreeSectorsOfChanges(t *testing.T) { // P17.4, P17.5: ErrDirDisk, unless as many are free as leaves are laid
	for _, c := range changes() {
		if c.leaves > 0 {
			x, header := prepared(t, c, c.leaves-1, 100)
			unchanged(t, c.what, x, api.ErrDirDisk, func() api.Errno { return c.do(x, header) })
		}
		x, header := prepared(t, c, c.leaves, 100)
		if e := c.do(x, header); e != api.OK {
			t.Errorf("%s: %v", c.what, e)
		}
		p, ok := plainRead(x.Disk().Image())
		if !ok || len(p.leaves) != c.leaves || !slices.Equal(p.all(), x.All()) {
			t.Errorf("%s: the disk has %v", c.what, p)
		}
	}
}

func TestWritesOfChanges(t *testing.T) { // P17.4, P17.5: ErrDirDisk, if the disk would be written too often
	for _, c := range changes() {
		for writes := range c.leaves + 1 {
			x, header := prepared(t, c, 10, writes)
			unchanged(t, c.what, x, api.ErrDirDisk, func() api.Errno { return c.do(x, header) })
		}
		x, header := prepared(t, c, 10, c.leaves+1)
		if e := c.do(x, header); e != api.OK || len(x.Disk().Writes()) != 4096 {
			t.Errorf("%s: %v, %d writes", c.what, e, len(x.Disk().Writes()))
		}
	}
}

func TestNeitherFreeSectorsNorWrites(t *testing.T) { // other errors stand ahead of ErrDirDisk
	for _, files := range []int{0, 31, 200} {
		x, header := prepared(t, change{files: files}, 0, 0)
		for _, one := range []struct {
			what string
			want api.Errno
			do   func() api.Errno
		}{
			{"Insert, its name", api.ErrDirName, func() api.Errno { return x.Insert(api.Entry{Name: "1", Header: 0}) }},
			{"Insert, its header", api.ErrArg, func() api.Errno { return x.Insert(api.Entry{Name: "a", Header: 0}) }},
			{"Insert, its length", api.ErrArg, func() api.Errno { return x.Insert(api.Entry{Name: "a", Header: header, Len: 1}) }},
			{"Delete", api.ErrDirNone, func() api.Errno { return x.Delete("a") }},
			{"Rename, the name", api.ErrDirName, func() api.Errno { return x.Rename("a", "1") }},
			{"Rename", api.ErrDirNone, func() api.Errno { return x.Rename("a", "b") }},
		} {
			unchanged(t, one.what, x, one.want, one.do)
		}
		if files > 1 {
			unchanged(t, "Rename to another one", x, api.ErrDirHas, func() api.Errno { return x.Rename(nth(0), nth(1)) })
		}
	}
}

func TestDelete(t *testing.T) { // P17.5
	x, d := empty(t, 40)
	adds(t, x, "a", 2000) // 1, 2, 3, the leaf 4
	adds(t, x, "b", 0)    // 5, the leaf 6
	for _, name := range []string{"", "c", "A", "a.", "1", "aa"} {
		unchanged(t, name, x, api.ErrDirNone, func() api.Errno { return x.Delete(name) })
	}
	from := len(d.Writes())
	if e := x.Delete("a"); e != api.OK || !slices.Equal(wrote(d, from), []int{4, 0}) {
		t.Error(e, wrote(d, from))
	}
	sectorIs(t, d, 4, leafPage(0, api.Entry{Name: "b", Header: 5}))
	unchanged(t, "again", x, api.ErrDirNone, func() api.Errno { return x.Delete("a") })
	if free := stateOf(t, x).free; !slices.Equal(free[:5], []int{1, 2, 3, 6, 7}) || len(free) != 37 {
		t.Error(free)
	}
	from = len(d.Writes())
	if e := x.Delete("b"); e != api.OK || !slices.Equal(wrote(d, from), []int{0}) || x.Free() != 39 {
		t.Error(e, wrote(d, from), x.Free())
	}
	sectorIs(t, d, 0, rootPage(0))
}

func TestRename(t *testing.T) { // P17.5
	x, d := empty(t, 40)
	adds(t, x, "b", 5)
	one := adds(t, x, "d", 2000)
	for _, to := range []string{"", "1", "a b", "_", strings.Repeat("x", 24), "b\x00"} {
		unchanged(t, to, x, api.ErrDirName, func() api.Errno { return x.Rename("d", to) })
		unchanged(t, to, x, api.ErrDirName, func() api.Errno { return x.Rename("none", to) })
		unchanged(t, to, x, api.ErrDirName, func() api.Errno { return x.Rename(to, to) })
	}
	for _, from := range []string{"", "1", "c", "D", "dd"} {
		unchanged(t, from, x, api.ErrDirNone, func() api.Errno { return x.Rename(from, "e") })
		unchanged(t, from, x, api.ErrDirNone, func() api.Errno { return x.Rename(from, "b") })
	}
	unchanged(t, "to another one", x, api.ErrDirHas, func() api.Errno { return x.Rename("d", "b") })
	unchanged(t, "to itself", x, api.ErrDirHas, func() api.Errno { return x.Rename("d", "d") })
	for _, to := range []string{"a", "z", "c", "D", strings.Repeat("d", 23), "d"} {
		free := stateOf(t, x).free
		from := len(d.Writes())
		if e := x.Rename(one.Name, to); e != api.OK || !slices.Equal(wrote(d, from), []int{free[0], 0}) {
			t.Error(to, e, wrote(d, from))
		}
		unchanged(t, "its name of ahead", x, api.ErrDirNone, func() api.Errno { return x.Rename(one.Name, "q") })
		one.Name = to
		if f, e := x.Find(to); f != one || e != api.OK || len(x.All()) != 2 || x.Free() != len(free) {
			t.Error(to, f, e, x.Free())
		}
		p, ok := plainRead(d.Image())
		if !ok {
			t.Fatal(to, "no directory")
		}
		p.agrees(t, x)
	}
}

func TestHeadersAreNotLookedAtAgain(t *testing.T) { // 'A Dir' remembers which sectors each file has
	x, d := empty(t, 40)
	adds(t, x, "a", 3000)
	y := opens(t, d)
	b, _ := d.Read(1)
	for _, z := range []*Dir{x, y} {
		write(t, d, 1, page(0, cfh1, 9999, 20))
		if z.Free() != 34 {
			t.Error(z.Free())
		}
		if e := z.Rename("a", "b"); e != api.OK {
			t.Error(e)
		}
		if f, e := z.Find("b"); f != (api.Entry{Name: "b", Header: 1, Len: 3000}) || e != api.OK {
			t.Error(f, e)
		}
		if e := z.Delete("b"); e != api.OK || z.Free() != 39 {
			t.Error(e, z.Free())
		}
		free := stateOf(t, z).free
		if len(free) != 39 || free[0] != 1 {
			t.Error(free)
		}
		write(t, d, 1, b)
	}
}

func TestNamesOnTheDisk(t *testing.T) { // names of all lengths, noughts behind
	x, d := empty(t, 100)
	for n := range 23 {
		adds(t, x, strings.Repeat("n", n+1), 0)
	}
	b, _ := d.Read(x.leaves[0])
	for n := range 23 {
		name := b[8+32*n:][:24]
		if string(name) != strings.Repeat("n", n+1)+strings.Repeat("\x00", 23-n) {
			t.Errorf("%q", name)
		}
	}
	if binary.LittleEndian.Uint32(b[4:]) != 23 {
		t.Error("how many")
	}
	p, _ := plainRead(d.Image())
	p.agrees(t, opens(t, d))
}
