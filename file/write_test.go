package file

import (
	"fmt"
	"slices"
	"strings"
	"testing"

	"carrel/api"
	"carrel/dir"
	"carrel/disk"
)

func TestWriteTakes(t *testing.T) { // P18.2: the least free sectors, in rising order, for the data; then one for the header; then leaves and root
	x, d := empty(t, 20)
	takes(t, x, 12)
	for _, n := range []int{11, 2, 7, 5} { // 1 to 12 are taken, but for these
		x.Give(n)
	}
	data := some(2049, 1)
	from := len(d.Writes())
	writes(t, x, "a", data)
	if l := d.Writes()[from:]; !slices.Equal(l, []int{2, 5, 7, 11, 13, 0}) {
		t.Error(l)
	}
	sectorIs(t, d, 2, []byte(data[:1024]))
	sectorIs(t, d, 5, []byte(data[1024:2048]))
	sectorIs(t, d, 7, []byte(data[2048:]+strings.Repeat("\x00", 1023)))
	sectorIs(t, d, 11, headerPage(0, 2049, 2, 5, 7))
	if e := entry(t, x, "a"); e != (api.Entry{Name: "a", Header: 11, Len: 2049}) {
		t.Error(e)
	}
	for _, n := range []int{2, 5, 7, 11, 13} { // they are the file's and the leaf's now
		if e := x.Give(n); e != api.ErrArg {
			t.Error(n, e)
		}
	}
	for _, n := range []int{1, 3, 4, 6, 8, 9, 10, 12} { // and these are still taken
		if e := x.Give(n); e != api.OK {
			t.Error(n, e)
		}
	}
}

func TestWriteWritesOverAll(t *testing.T) { // P18.2: noughts behind, whatever stood there
	d, _ := disk.From(slices.Repeat([]byte{0xDD}, 16*1024))
	dir.Format(d)
	x := opens(t, d)
	writes(t, x, "a", some(1025, 1))
	sectorIs(t, d, 1, []byte(some(1025, 1)[:1024]))
	sectorIs(t, d, 2, []byte(some(1025, 1)[1024:]+strings.Repeat("\x00", 1023)))
	sectorIs(t, d, 3, headerPage(0, 1025, 1, 2))
	writes(t, x, "b", "")
	sectorIs(t, d, 5, headerPage(0, 0))
}

func TestWriteInPlace(t *testing.T) { // P18.2: what was there is free behind that, and not ahead
	x, d := empty(t, 12)
	writes(t, x, "a", some(2048, 1)) // 1, 2; 3; 4
	from := len(d.Writes())
	writes(t, x, "a", some(1500, 2))
	if l := d.Writes()[from:]; !slices.Equal(l, []int{5, 6, 7, 8, 0}) {
		t.Error(l)
	}
	if l := takes(t, x, x.Free()); !slices.Equal(l, []int{1, 2, 3, 4, 9, 10, 11}) {
		t.Error(l)
	}
	reads(t, x, "a", some(1500, 2))

	x, _ = empty(t, 12)
	writes(t, x, "a", some(4096, 1)) // 5 sectors, a leaf: 5 are free
	refuses(t, x, "a", some(4096, 2), api.ErrDirDisk)
	writes(t, x, "a", some(3072, 2))
	reads(t, x, "a", some(3072, 2))
	if x.Free() != 6 {
		t.Error(x.Free())
	}
}

func TestWriteFirstError(t *testing.T) { // P18.2: the first of those that apply
	long, great := some(256001, 1), some(256000, 1)
	x, d := having(t, 250, filesOf(200))
	leaves(t, x, 0)
	wear(t, d, 0)
	for _, one := range []struct {
		name, data string
		want       api.Errno
	}{
		{"1", long, api.ErrDirName},
		{"", "", api.ErrDirName},
		{strings.Repeat("x", 24), great, api.ErrDirName},
		{"a/b", long, api.ErrDirName},
		{"a", long, api.ErrFileLong},
		{nth(0), long, api.ErrFileLong},
		{"a", great, api.ErrDirFull},
		{"a", "", api.ErrDirFull},
		{strings.Repeat("x", 23), "", api.ErrDirFull},
		{nth(0), "", api.ErrDirDisk},
		{nth(199), great, api.ErrDirDisk},
	} {
		refuses(t, x, one.name, one.data, one.want)
	}
}

func TestWriteNames(t *testing.T) { // P18.2: ErrDirName
	x, _ := empty(t, 30)
	for _, name := range []string{"", "1", "_a", ".a", "a b", "a-", "a\x00", "a\n", "é", "aé", strings.Repeat("x", 24), strings.Repeat("x", 70000), "a/b", "a\x80"} {
		refuses(t, x, name, "x", api.ErrDirName)
	}
	for _, name := range []string{"a", "Z", "a.b", "a_", "z9", "a..", strings.Repeat("x", 23)} {
		writes(t, x, name, name)
		reads(t, x, name, name)
	}
}

func TestWriteLong(t *testing.T) { // P18.2: ErrFileLong, ahead of there being no room
	x, _ := empty(t, 300)
	refuses(t, x, "a", some(256001, 1), api.ErrFileLong)
	refuses(t, x, "a", strings.Repeat("x", 1<<24), api.ErrFileLong)
	writes(t, x, "a", some(256000, 1))
	small, _ := empty(t, 8)
	refuses(t, small, "a", some(256001, 1), api.ErrFileLong)
	refuses(t, small, "a", some(256000, 1), api.ErrDirDisk)
}

func TestWriteFull(t *testing.T) { // P18.2: ErrDirFull
	x, _ := having(t, 300, filesOf(199))
	writes(t, x, "last", "x")
	refuses(t, x, "more", "x", api.ErrDirFull)
	refuses(t, x, "Ahead", "", api.ErrDirFull)
	for _, name := range []string{"last", nth(0), nth(198)} { // in the place of others
		writes(t, x, name, "anew")
		reads(t, x, name, "anew")
	}
	if e := x.Delete(nth(7)); e != api.OK {
		t.Fatal(e)
	}
	writes(t, x, "more", "x")
	refuses(t, x, nth(7), "x", api.ErrDirFull)
}

// change is a Write, and how many sectors it needs.
type change struct {
	files  int // that there are ahead
	name   string
	length int
	data   int
	leaves int
}

func changes() []change {
	return []change{
		{0, "a", 0, 0, 1},
		{0, "a", 1, 1, 1},
		{0, "a", 1024, 1, 1},
		{0, "a", 1025, 2, 1},
		{1, nth(0), 0, 0, 1},
		{1, "a", 1, 1, 1},
		{30, "a", 0, 0, 1},
		{31, "a", 0, 0, 2},
		{31, nth(30), 0, 0, 1},
		{31, "z", 2048, 2, 2},
		{32, nth(3), 1, 1, 2},
		{61, "a", 0, 0, 2},
		{62, "a", 0, 0, 3},
		{186, "a", 3000, 3, 7},
		{186, nth(0), 3000, 3, 6},
		{199, "z", 0, 0, 7},
		{200, nth(100), 5000, 5, 7},
	}
}

func (c change) String() string {
	return fmt.Sprintf("%s, %d bytes, of %d files", c.name, c.length, c.files)
}

func TestWriteFreeSectors(t *testing.T) { // P18.2: ErrDirDisk, unless as many are free
	for _, c := range changes() {
		data, need := some(c.length, 1), c.data+1+c.leaves
		x, _ := having(t, 240, filesOf(c.files))
		leaves(t, x, need-1)
		refuses(t, x, c.name, data, api.ErrDirDisk)
		x, d := having(t, 240, filesOf(c.files))
		leaves(t, x, need)
		if e := Write(x, c.name, data); e != api.OK {
			t.Errorf("%v: %v of %d", c, e, need)
		}
		reads(t, x, c.name, data)
		reads(t, opens(t, d), c.name, data)
	}
}

func TestWriteWorn(t *testing.T) { // P18.2: ErrDirDisk, if the disk would be written too often
	for _, c := range changes() {
		data, need := some(c.length, 1), c.data+1+c.leaves+1
		for _, left := range []int{0, 1, need - 2, need - 1} {
			x, d := having(t, 240, filesOf(c.files))
			wear(t, d, left)
			refuses(t, x, c.name, data, api.ErrDirDisk)
		}
		x, d := having(t, 240, filesOf(c.files))
		wear(t, d, need)
		if e := Write(x, c.name, data); e != api.OK || len(d.Writes()) != 4096 {
			t.Errorf("%v: %v, %d writes", c, e, len(d.Writes()))
		}
		reads(t, x, c.name, data)
		refuses(t, x, c.name, "", api.ErrDirDisk)
	}
}

func TestWriteGreatest(t *testing.T) { // 250 sectors of data, a header, a leaf, and the root
	x, d := empty(t, 253)
	data := some(256000, 3)
	writes(t, x, "a", data)
	reads(t, x, "a", data)
	if x.Free() != 0 || len(d.Writes()) != 254 {
		t.Error(x.Free(), len(d.Writes()))
	}
	x, _ = empty(t, 252)
	refuses(t, x, "a", data, api.ErrDirDisk)
	writes(t, x, "a", data[:249*1024])
}

func TestWriteNoName(t *testing.T) { // R3: a piece of a greater text is taken as it is
	x, _ := empty(t, 16)
	b := []byte("name and data")
	writes(t, x, string(b[:4]), string(b[9:]))
	copy(b, "xxxxxxxxxxxxxxxx")
	reads(t, x, "name", "data")
}

func TestTwoDirs(t *testing.T) { // each with a book of its own, of one disk: what a file has lost is told
	x, d := empty(t, 16)
	y := opens(t, d)
	writes(t, x, "a", some(1024, 1)) // 1; 2; 3
	writes(t, y, "b", "")            // over 1; 2
	if s, e := Read(x, "a"); s != "" || e != api.ErrFileForm {
		t.Error(len(s), e)
	}
	reads(t, y, "b", "")
	if l, e := Map(d); e != api.OK || !slices.Equal(l, []api.File{{Name: "b"}}) {
		t.Error(l, e)
	}
}
