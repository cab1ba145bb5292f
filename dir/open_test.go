package dir

import (
	"bytes"
	"encoding/binary"
	"slices"
	"strings"
	"testing"

	"carrel/api"
	"carrel/disk"
)

func TestErrorsHaveTheirNumbers(t *testing.T) {
	for e, n := range map[api.Errno]int{
		api.ErrNil: 1, api.ErrArg: 2, api.ErrDirForm: 170, api.ErrDirName: 171, api.ErrDirNone: 172,
		api.ErrDirFull: 173, api.ErrDirDisk: 174, api.ErrDirHas: 175,
	} {
		if int(e) != n {
			t.Errorf("%d, not %d", int(e), n)
		}
	}
}

func TestExamples(t *testing.T) { // the chapter's table
	d := newDisk(t, 16)
	if x, e := Open(d); x != nil || e != api.ErrDirForm {
		t.Error("Open of a new disk", x, e)
	}
	if e := Format(d); e != api.OK {
		t.Error("Format", e)
	}
	x := opens(t, d)
	if x.Free() != 15 {
		t.Error("Free", x.Free())
	}
	if l := takes(t, x, 2); !slices.Equal(l, []int{1, 2}) {
		t.Error("Take", l)
	}
	write(t, d, 1, headerPage(0, 5, 2))
	a := api.Entry{Name: "a", Header: 1, Len: 5}
	if e := x.Insert(a); e != api.OK || x.Free() != 12 || !slices.Equal(d.Writes(), []int{0, 1, 3, 0}) {
		t.Error("Insert", e, x.Free(), d.Writes())
	}
	unchanged(t, "again", x, api.ErrArg, func() api.Errno { return x.Insert(a) })
	unchanged(t, "`1`", x, api.ErrDirName, func() api.Errno { return x.Insert(api.Entry{Name: "1", Header: 1, Len: 5}) })
	if one, e := x.Find("b"); one != (api.Entry{}) || e != api.ErrDirNone {
		t.Error("Find", one, e)
	}
	if e := x.Rename("a", "b"); e != api.OK || !slices.Equal(wrote(d, 4), []int{4, 0}) {
		t.Error("Rename", e, d.Writes())
	}
	sectorIs(t, d, 4, leafPage(0, api.Entry{Name: "b", Header: 1, Len: 5}))
	if e := x.Delete("b"); e != api.OK || x.Free() != 15 {
		t.Error("Delete", e, x.Free())
	}
}

func TestIsName(t *testing.T) { // P17.1
	for c := range 256 {
		first, later := string([]byte{byte(c)}), "a"+string([]byte{byte(c)})
		if IsName(first) != plainIsName(first) || IsName(later) != plainIsName(later) || IsName(later+"b") != plainIsName(later+"b") {
			t.Errorf("byte %d", c)
		}
	}
	for s, want := range map[string]bool{
		"": false, "a": true, "Z": true, "a.b_9": true, "a.": true, "z_": true, "1": false, ".a": false, "_": false,
		"a b": false, "a-b": false, "a/b": false, "ä": false, "aä": false, "a\x00": false, "\x00": false, "a\n": false, "END": true,
		strings.Repeat("x", 22): true, strings.Repeat("x", 23): true, strings.Repeat("x", 24): false, strings.Repeat("x", 1000): false,
	} {
		if IsName(s) != want {
			t.Errorf("IsName(%q) is %v", s, !want)
		}
	}
}

func TestFormat(t *testing.T) { // P17.1
	if e := Format(nil); e != api.ErrNil {
		t.Error(e)
	}
	for _, sectors := range []int{8, 40, 1024} {
		d, _ := disk.From(bytes.Repeat([]byte{0xA5}, sectors*1024))
		if e := Format(d); e != api.OK || !slices.Equal(d.Writes(), []int{0}) {
			t.Error(e, d.Writes())
		}
		want := append(page(0, cdr1, 0), bytes.Repeat([]byte{0xA5}, (sectors-1)*1024)...)
		if !bytes.Equal(d.Image(), want) {
			t.Error("another image")
		}
		if x := opens(t, d); x.Free() != sectors-1 || len(x.All()) != 0 {
			t.Error(x.Free(), x.All())
		}
	}
}

func TestFormatOfFiles(t *testing.T) { // P17.1: they are gone
	x, d := empty(t, 20)
	adds(t, x, "a", 2000)
	if e := Format(d); e != api.OK {
		t.Error(e)
	}
	if y := opens(t, d); y.Free() != 19 || len(y.All()) != 0 {
		t.Error(y.Free(), y.All())
	}
}

func TestFormatOfAWornDisk(t *testing.T) { // P17.1
	d := newDisk(t, 8)
	wear(t, d, 1)
	if e := Format(d); e != api.OK || len(d.Writes()) != 4096 {
		t.Error(e)
	}
	ahead := d.Image()
	if e := Format(d); e != api.ErrDirDisk || !bytes.Equal(d.Image(), ahead) {
		t.Error(e)
	}
	opens(t, d)
	if e := Format(&disk.Disk{}); e == api.OK { // R1: a disk that no call gave
		t.Error("it has no sector")
	}
}

// sample is an image of 60 sectors with 33 files: sectors 50 and 40 are leaves, 3 and 7 headers of some length.
func sample() []byte {
	image := bytes.Repeat([]byte{0xEE}, 60*1024)
	set := func(n int, b []byte) { copy(image[n*1024:], b) }
	var l []api.Entry
	for n := range 33 {
		l = append(l, api.Entry{Name: nth(n), Header: 9 + n})
		if 9+n >= 40 {
			l[n].Header = 51 + n - 31
		}
		set(l[n].Header, headerPage(0xEE, 0))
	}
	l[1].Header, l[1].Len = 3, 1025
	set(3, headerPage(0xEE, 1025, 5, 4))
	l[32].Header, l[32].Len = 7, 1
	set(7, headerPage(0xEE, 1, 59))
	set(0, rootPage(0xEE, 50, 40))
	set(50, leafPage(0xEE, l[:31]...))
	set(40, leafPage(0xEE, l[31:]...))
	return image
}

func TestOpen(t *testing.T) { // P17.1, P17.2: what stands behind what a root, a leaf and a header have is not looked at
	image := sample()
	p, ok := plainRead(image)
	if !ok {
		t.Fatal("the sample is none")
	}
	d, _ := disk.From(image)
	x := opens(t, d)
	p.agrees(t, x)
	if x.Free() != 60-1-2-33-3 || x.Disk() != d || len(d.Writes()) != 0 {
		t.Error(x.Free(), len(d.Writes()))
	}
	if f, e := x.Find("f001"); f != (api.Entry{Name: "f001", Header: 3, Len: 1025}) || e != api.OK {
		t.Error(f, e)
	}
	if s := stateOf(t, x); !slices.Equal(s.free, p.free()) {
		t.Error(s.free)
	}
}

func TestOpenRefuses(t *testing.T) { // P17.1: each thing that a directory asks for
	const root, full, last, first, second, short = 0, 50 * 1024, 40 * 1024, 9 * 1024, 3 * 1024, 7 * 1024
	for _, x := range []struct {
		what string
		at   int
		w    uint32
	}{
		{"another mark of the root", root, cdl1},
		{"a leaf more than there is", root + 4, 3},
		{"many leaves", root + 4, 0x80000002},
		{"8 leaves", root + 4, 8},
		{"a leaf that is the root", root + 8, 0},
		{"a leaf that the disk has not", root + 8, 60},
		{"a leaf of the greatest number", root + 8, 0xFFFFFFFF},
		{"a leaf that is no leaf", root + 8, 1},
		{"a leaf that is a header", root + 12, 7},
		{"a leaf twice", root + 12, 50},
		{"another mark of a leaf", full, cfh1},
		{"30 entries in a leaf that is not the last one", full + 4, 30},
		{"32 entries", full + 4, 32},
		{"no entry in a leaf", full + 4, 0},
		{"no entry in the last leaf", last + 4, 0},
		{"an entry more than there is", last + 4, 3},
		{"32 entries in the last leaf", last + 4, 32},
		{"many entries in the last leaf", last + 4, 0x80000001},
		{"a name that begins with a digit", full + 8, 0x30303031},
		{"no name", full + 8, 0},
		{"a name with a blank", full + 8, 0x30302066},
		{"a name with something behind its nought", full + 8 + 8, 0x30},
		{"a name with something at its last byte", full + 8 + 20, 0x30000000},
		{"a name as the one ahead", full + 8 + 32, 0x30303066},
		{"a name below the one ahead", full + 8 + 32, 0x30303065},
		{"a name below the last one of the leaf ahead", last + 8, 0x30303066},
		{"a name as the last one of the leaf ahead", last + 8, 0x30333066},
		{"a header that is the root", full + 8 + 24, 0},
		{"a header that is its leaf", full + 8 + 24, 50},
		{"a header that is another leaf", full + 8 + 24, 40},
		{"a header of another file", full + 8 + 24, 11},
		{"a header that is data", full + 8 + 24, 5},
		{"a header that the disk has not", full + 8 + 24, 60},
		{"a header of the greatest number", full + 8 + 24, 0xFFFFFFFF},
		{"a length that is not the header's", full + 8 + 28, 1},
		{"the same, of data", full + 8 + 32 + 28, 1024},
		{"a length above its sectors", full + 8 + 32 + 28, 0xFFFFFFFF},
		{"another mark of a header", first, cdl1},
		{"another length in a header", second + 4, 1026},
		{"another length in a header, of no data", second + 4, 0},
		{"data that is the root", second + 8, 0},
		{"data that is a leaf", second + 12, 40},
		{"data that is the file's header", second + 8, 3},
		{"data that is another file's header", second + 8, 9},
		{"data that is another file's", second + 12, 59},
		{"data twice", second + 12, 5},
		{"data that the disk has not", second + 12, 60},
		{"data of the greatest number", second + 12, 0x80000000},
		{"data of the last file that is a header", short + 8, 9},
	} {
		image := sample()
		binary.LittleEndian.PutUint32(image[x.at:], x.w)
		if _, ok := plainRead(image); ok {
			t.Errorf("%s: that is a directory", x.what)
		}
		d, _ := disk.From(image)
		if y, e := Open(d); y != nil || e != api.ErrDirForm {
			t.Errorf("%s: %v", x.what, e)
		}
		if len(d.Writes()) != 0 || !bytes.Equal(d.Image(), image) {
			t.Errorf("%s: the disk was written", x.what)
		}
	}
}

func TestOpenOfNone(t *testing.T) { // P17.1, R4
	if x, e := Open(nil); x != nil || e != api.ErrNil {
		t.Error(x, e)
	}
	if x, e := Open(&disk.Disk{}); x != nil || e != api.ErrDirForm {
		t.Error(x, e)
	}
	for _, sectors := range []int{8, 1024} {
		if x, e := Open(newDisk(t, sectors)); x != nil || e != api.ErrDirForm {
			t.Error(x, e)
		}
	}
}

func TestOpenOfSpoiltWords(t *testing.T) { // P17.1: each word of what a directory has, one bit turned, against the chapter told plainly
	image := sample()
	d, _ := disk.From(image)
	told := 0
	for _, sector := range []int{0, 50, 40, 3, 7, 9} {
		for at := sector * 1024; at < sector*1024+1024; at += 4 {
			old := binary.LittleEndian.Uint32(image[at:])
			for bit := range 32 {
				binary.LittleEndian.PutUint32(image[at:], old^1<<bit)
				d, _ = disk.From(image)
				_, ok := plainRead(image)
				x, e := Open(d)
				if ok != (e == api.OK) || ok != (x != nil) || !ok && e != api.ErrDirForm {
					t.Fatalf("sector %d, place %d, bit %d: %v, told %v", sector, at%1024, bit, e, ok)
				}
				if !ok {
					told++
				}
				if at%1024 >= 8 && bit == 8 && old == 0xEEEEEEEE { // one bit of what is not looked at is enough
					break
				}
			}
			binary.LittleEndian.PutUint32(image[at:], old)
		}
	}
	if told < 500 {
		t.Error("refused", told)
	}
}

func TestOpenAtItsEdges(t *testing.T) { // P17.1: how many files there may be
	for _, files := range []int{0, 1, 30, 31, 32, 62, 63, 186, 187, 199, 200} {
		d := full(t, 230, files)
		x := opens(t, d)
		if l := x.All(); len(l) != files || x.Free() != 229-files-(files+30)/31 {
			t.Errorf("%d files: All %d, Free %d", files, len(l), x.Free())
		}
	}
	for _, files := range []int{201, 217} {
		if x, e := Open(full(t, 230, files)); x != nil || e != api.ErrDirForm {
			t.Errorf("%d files: %v", files, e)
		}
	}
}

func TestOpenOfLongFiles(t *testing.T) { // P17.1: how long they may be
	for _, length := range []int{0, 1, 1023, 1024, 1025, 255999, 256000, 256001, 257024, -1} {
		image := make([]byte, 300*1024)
		data := make([]int, 251)
		for i := range data {
			data[i] = 299 - i
		}
		copy(image, rootPage(0, 1))
		copy(image[1024:], leafPage(0, api.Entry{Name: "a", Header: 2, Len: length}))
		copy(image[2048:], headerPage(0, length, data...))
		d, _ := disk.From(image)
		x, e := Open(d)
		if length < 0 || length > 256000 {
			if x != nil || e != api.ErrDirForm {
				t.Errorf("length %d: %v", length, e)
			}
			continue
		}
		if e != api.OK || x.Free() != 297-(length+1023)/1024 {
			t.Errorf("length %d: %v, %d", length, e, x.Free())
		}
		p, _ := plainRead(image)
		if s := stateOf(t, x); !slices.Equal(s.free, p.free()) {
			t.Errorf("length %d: free %v", length, s.free)
		}
	}
}

func TestOpenOfLongNames(t *testing.T) { // P17.1
	for _, name := range []string{"z", strings.Repeat("z", 22), strings.Repeat("z", 23), strings.Repeat("z", 24), "Z", "", "9"} {
		image := make([]byte, 8*1024)
		copy(image, rootPage(0, 1))
		copy(image[1024:], leafPage(0, api.Entry{Name: name, Header: 2}))
		copy(image[2048:], headerPage(0, 0))
		d, _ := disk.From(image)
		x, e := Open(d)
		if !plainIsName(name) {
			if x != nil || e != api.ErrDirForm {
				t.Errorf("%q: %v", name, e)
			}
		} else if e != api.OK || x.All()[0] != (api.Entry{Name: name, Header: 2}) {
			t.Errorf("%q: %v", name, e)
		}
	}
}
