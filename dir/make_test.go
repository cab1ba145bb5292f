package dir

import (
	"bytes"
	"encoding/binary"
	"fmt"
	"slices"
	"testing"

	"carrel/api"
	"carrel/disk"
)

// Words, as the chapter has them.
const (
	cdr1 = 0x31524443
	cdl1 = 0x314C4443
	cfh1 = 0x31484643
)

// page is a sector's bytes: these words, and so much else behind, up to its end.
func page(fill byte, words ...uint32) []byte {
	b := bytes.Repeat([]byte{fill}, 1024)
	for i, w := range words {
		binary.LittleEndian.PutUint32(b[4*i:], w)
	}
	return b
}

// entryBytesOf are the 32 bytes of an entry.
func entryBytesOf(e api.Entry) []byte {
	b := make([]byte, 32)
	copy(b, e.Name)
	binary.LittleEndian.PutUint32(b[24:], uint32(e.Header))
	binary.LittleEndian.PutUint32(b[28:], uint32(e.Len))
	return b
}

// leafPage is a leaf with these entries, and so much else behind.
func leafPage(fill byte, l ...api.Entry) []byte {
	b := page(fill, cdl1, uint32(len(l)))
	for i, e := range l {
		copy(b[8+32*i:], entryBytesOf(e))
	}
	return b
}

func rootPage(fill byte, leaves ...int) []byte {
	return page(fill, append([]uint32{cdr1, uint32(len(leaves))}, wordsOf(leaves)...)...)
}

func headerPage(fill byte, length int, data ...int) []byte {
	return page(fill, append([]uint32{cfh1, uint32(length)}, wordsOf(data)...)...)
}

func wordsOf(l []int) []uint32 {
	var w []uint32
	for _, n := range l {
		w = append(w, uint32(n))
	}
	return w
}

func newDisk(t *testing.T, sectors int) *disk.Disk {
	t.Helper()
	d, e := disk.New(sectors)
	if e != api.OK {
		t.Fatal(e)
	}
	return d
}

func write(t *testing.T, d *disk.Disk, n int, b []byte) {
	t.Helper()
	if e := d.Write(n, b); e != api.OK {
		t.Fatalf("sector %d: %v", n, e)
	}
}

func opens(t *testing.T, d *disk.Disk) *Dir {
	t.Helper()
	x, e := Open(d)
	if e != api.OK || x == nil {
		t.Fatal("Open:", x, e)
	}
	return x
}

// empty is a Dir without files, and its disk.
func empty(t *testing.T, sectors int) (*Dir, *disk.Disk) {
	t.Helper()
	d := newDisk(t, sectors)
	if e := Format(d); e != api.OK {
		t.Fatal(e)
	}
	return opens(t, d), d
}

// takes takes so many sectors.
func takes(t *testing.T, x *Dir, many int) []int {
	t.Helper()
	var l []int
	for range many {
		n, e := x.Take()
		if e != api.OK {
			t.Fatalf("%d taken: %v", len(l), e)
		}
		l = append(l, n)
	}
	return l
}

// ready takes what a file needs, its header first, and writes that.
func ready(t *testing.T, x *Dir, name string, length int) (api.Entry, []int) {
	t.Helper()
	l := takes(t, x, 1+(length+1023)/1024)
	write(t, x.Disk(), l[0], headerPage(0, length, l[1:]...))
	return api.Entry{Name: name, Header: l[0], Len: length}, l
}

// adds puts a file in.
func adds(t *testing.T, x *Dir, name string, length int) api.Entry {
	t.Helper()
	e, _ := ready(t, x, name, length)
	if no := x.Insert(e); no != api.OK {
		t.Fatalf("Insert(%v): %v", e, no)
	}
	return e
}

// addsMany puts so many empty files in.
func addsMany(t *testing.T, x *Dir, many int) {
	t.Helper()
	for n := range many {
		adds(t, x, nth(n), 0)
	}
}

// nth are names that rise.
func nth(n int) string { return fmt.Sprintf("f%03d", n) }

// full is a disk with so many empty files, their headers behind the leaves, that was not written.
func full(t *testing.T, sectors, files int) *disk.Disk {
	t.Helper()
	many := (files + 30) / 31
	image := make([]byte, sectors*1024)
	var leaves []int
	for i := range many {
		leaves = append(leaves, 1+i)
		var l []api.Entry
		for n := i * 31; n < min(files, i*31+31); n++ {
			header := 1 + many + n
			l = append(l, api.Entry{Name: nth(n), Header: header})
			copy(image[header*1024:], headerPage(0, 0))
		}
		copy(image[(1+i)*1024:], leafPage(0, l...))
	}
	copy(image, rootPage(0, leaves...))
	d, e := disk.From(image)
	if e != api.OK {
		t.Fatal(e)
	}
	return d
}

// wear writes a disk so often that it bears so many writes more.
func wear(t *testing.T, d *disk.Disk, left int) {
	t.Helper()
	last := d.Sectors() - 1
	b, _ := d.Read(last)
	for range 4096 - left - len(d.Writes()) {
		write(t, d, last, b)
	}
}

// state is all that a Dir and its disk tell, and what it would take.
type state struct {
	all   []api.Entry
	free  []int
	image []byte
	wrote int
}

// stateOf asks for it, and leaves the Dir as it was.
func stateOf(t *testing.T, x *Dir) state {
	t.Helper()
	s := state{all: x.All(), image: x.Disk().Image(), wrote: len(x.Disk().Writes())}
	if many := x.Free(); many > 0 {
		s.free = takes(t, x, many)
	}
	if n, e := x.Take(); n != 0 || e != api.ErrDirDisk {
		t.Errorf("Take when %d were told free and taken: %d, %v", len(s.free), n, e)
	}
	for _, n := range s.free {
		if e := x.Give(n); e != api.OK {
			t.Errorf("Give(%d): %v", n, e)
		}
	}
	return s
}

// unchanged does what answers an error, and asks whether anything has changed.
func unchanged(t *testing.T, what string, x *Dir, want api.Errno, do func() api.Errno) {
	t.Helper()
	ahead := stateOf(t, x)
	if e := do(); e != want {
		t.Errorf("%s: %v, not %v", what, e, want)
	}
	behind := stateOf(t, x)
	if !slices.Equal(ahead.all, behind.all) || !slices.Equal(ahead.free, behind.free) || !bytes.Equal(ahead.image, behind.image) || ahead.wrote != behind.wrote {
		t.Errorf("%s: something has changed", what)
	}
}

// wrote are the writes behind the first so many.
func wrote(d *disk.Disk, from int) []int { return d.Writes()[from:] }

func sectorIs(t *testing.T, d *disk.Disk, n int, want []byte) {
	t.Helper()
	if b, e := d.Read(n); e != api.OK || !bytes.Equal(b, want) {
		t.Errorf("sector %d: %v, not as it should be: %q", n, e, bytes.TrimRight(b, "\x00"))
	}
}
