package file

import (
	"bytes"
	"encoding/binary"
	"fmt"
	"slices"
	"strings"
	"testing"

	"carrel/api"
	"carrel/dir"
	"carrel/disk"
)

// Words, as chapter 17 has them.
const (
	cdr1 = 0x31524443
	cdl1 = 0x314C4443
	cfh1 = 0x31484643
)

// page is a sector's bytes: these words, and so much else behind, up to its end.
func page(fill byte, words ...uint32) []byte {
	b := bytes.Repeat([]byte{fill}, 1024)
	for i, w := range words {
		binary.LittleEndian.PutUint32(b[4*i:], w)
	}
	return b
}

func headerPage(fill byte, length int, data ...int) []byte {
	words := []uint32{cfh1, uint32(length)}
	for _, n := range data {
		words = append(words, uint32(n))
	}
	return page(fill, words...)
}

// some are so many bytes, which no piece of a thousand looks like another one of.
func some(many int, seed int) string {
	b := make([]byte, many)
	n := uint32(seed)*2654435761 + 1
	for i := range b {
		n = n*1664525 + 1013904223
		b[i] = byte(n >> 24)
	}
	return string(b)
}

// nth are names that rise.
func nth(n int) string { return fmt.Sprintf("f%03d", n) }

func newDisk(t *testing.T, sectors int) *disk.Disk {
	t.Helper()
	d, e := disk.New(sectors)
	if e != api.OK {
		t.Fatal(e)
	}
	return d
}

func opens(t *testing.T, d *disk.Disk) *dir.Dir {
	t.Helper()
	x, e := dir.Open(d)
	if e != api.OK {
		t.Fatal(e)
	}
	return x
}

// empty is a Dir without files, and its disk.
func empty(t *testing.T, sectors int) (*dir.Dir, *disk.Disk) {
	t.Helper()
	d := newDisk(t, sectors)
	if e := dir.Format(d); e != api.OK {
		t.Fatal(e)
	}
	return opens(t, d), d
}

func lay(t *testing.T, d *disk.Disk, n int, b []byte) {
	t.Helper()
	if e := d.Write(n, b); e != api.OK {
		t.Fatalf("sector %d: %v", n, e)
	}
}

func writes(t *testing.T, x *dir.Dir, name, data string) {
	t.Helper()
	if e := Write(x, name, data); e != api.OK {
		t.Fatalf("Write(%s, %d bytes): %v", name, len(data), e)
	}
}

func reads(t *testing.T, x *dir.Dir, name, want string) {
	t.Helper()
	if s, e := Read(x, name); s != want || e != api.OK {
		t.Errorf("Read(%s): %d bytes, %v; not its %d", name, len(s), e, len(want))
	}
}

func entry(t *testing.T, x *dir.Dir, name string) api.Entry {
	t.Helper()
	e, no := x.Find(name)
	if no != api.OK {
		t.Fatal(name, no)
	}
	return e
}

// takes takes so many sectors.
func takes(t *testing.T, x *dir.Dir, many int) []int {
	t.Helper()
	var l []int
	for range many {
		n, e := x.Take()
		if e != api.OK {
			t.Fatalf("%d taken: %v", len(l), e)
		}
		l = append(l, n)
	}
	return l
}

// leaves takes all but so many sectors.
func leaves(t *testing.T, x *dir.Dir, free int) {
	t.Helper()
	if x.Free() < free {
		t.Fatalf("%d are free, not %d", x.Free(), free)
	}
	takes(t, x, x.Free()-free)
}

// wear writes a disk so often that it bears so many writes more.
func wear(t *testing.T, d *disk.Disk, left int) {
	t.Helper()
	last := d.Sectors() - 1
	b, _ := d.Read(last)
	for range 4096 - left - len(d.Writes()) {
		lay(t, d, last, b)
	}
}

// filesOf are so many empty files.
func filesOf(many int) []api.File {
	var l []api.File
	for n := range many {
		l = append(l, api.File{Name: nth(n)})
	}
	return l
}

// having is a Dir of a disk that has these files, and was not written.
func having(t *testing.T, sectors int, l []api.File) (*dir.Dir, *disk.Disk) {
	t.Helper()
	d, e := Make(sectors, l)
	if e != api.OK {
		t.Fatal(e)
	}
	return opens(t, d), d
}

// state is all that a Dir and its disk tell.
type state struct {
	all   []api.Entry
	data  []string
	free  []int
	image []byte
	wrote int
}

// stateOf asks for it, and leaves the Dir as it was.
func stateOf(t *testing.T, x *dir.Dir) state {
	t.Helper()
	s := state{all: x.All(), image: x.Disk().Image(), wrote: len(x.Disk().Writes())}
	for _, e := range s.all {
		data, no := Read(x, e.Name)
		s.data = append(s.data, no.Error()+data)
	}
	if many := x.Free(); many > 0 {
		s.free = takes(t, x, many)
	}
	for _, n := range s.free {
		if e := x.Give(n); e != api.OK {
			t.Errorf("Give(%d): %v", n, e)
		}
	}
	return s
}

// unchanged does what answers an error, and asks whether anything has changed.
func unchanged(t *testing.T, what string, x *dir.Dir, want api.Errno, do func() api.Errno) {
	t.Helper()
	ahead := stateOf(t, x)
	if e := do(); e != want {
		t.Errorf("%s: %v, not %v", what, e, want)
	}
	behind := stateOf(t, x)
	if !slices.Equal(ahead.all, behind.all) || !slices.Equal(ahead.data, behind.data) || !slices.Equal(ahead.free, behind.free) || !bytes.Equal(ahead.image, behind.image) || ahead.wrote != behind.wrote {
		t.Errorf("%s: something has changed", what)
	}
}

// refuses is a Write that answers an error, and changes nothing.
func refuses(t *testing.T, x *dir.Dir, name, data string, want api.Errno) {
	t.Helper()
	what := fmt.Sprintf("Write(%q, %d bytes)", name[:min(len(name), 30)], len(data))
	unchanged(t, what, x, want, func() api.Errno { return Write(x, name, data) })
}

func sectorIs(t *testing.T, d *disk.Disk, n int, want []byte) {
	t.Helper()
	if b, e := d.Read(n); e != api.OK || !bytes.Equal(b, want) {
		t.Errorf("sector %d: %v, not as it should be: %q", n, e, strings.TrimRight(string(b), "\x00"))
	}
}
