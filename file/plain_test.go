package file

import (
	"bytes"
	"encoding/binary"
	"regexp"
	"slices"
	"sort"
	"testing"

	"carrel/api"
	"carrel/dir"
	"carrel/disk"
)

// The chapter, and what it leans on of chapter 17, told plainly once more.

var plainName = regexp.MustCompile(`^[a-zA-Z][a-zA-Z0-9._]{0,22}\z`)

// laid is one write.
type laid struct {
	n int
	b []byte
}

// plain is a disk's book: its files by their names, which sectors each thing has, how often it was written.
type plain struct {
	sectors int
	data    map[string]string
	parts   map[string][]int // the header's, then those of data
	leaves  []int
	taken   map[int]bool
	wrote   int
}

func newPlain(sectors int) *plain {
	return &plain{sectors: sectors, data: map[string]string{}, parts: map[string][]int{}, taken: map[int]bool{}, wrote: 1}
}

func (p *plain) names() []string {
	var l []string
	for name := range p.data {
		l = append(l, name)
	}
	sort.Strings(l)
	return l
}

func (p *plain) files() []api.File {
	var l []api.File
	for _, name := range p.names() {
		l = append(l, api.File{Name: name, Data: p.data[name]})
	}
	return l
}

// free are the free sectors, rising.
func (p *plain) free() []int {
	used := map[int]bool{0: true}
	for _, n := range p.leaves {
		used[n] = true
	}
	for _, l := range p.parts {
		for _, n := range l {
			used[n] = true
		}
	}
	var l []int
	for n := range p.sectors {
		if !used[n] && !p.taken[n] {
			l = append(l, n)
		}
	}
	return l
}

// write answers the writes that there must be.
func (p *plain) write(name, data string) ([]laid, api.Errno) {
	if !plainName.MatchString(name) {
		return nil, api.ErrDirName
	}
	if len(data) > 256000 {
		return nil, api.ErrFileLong
	}
	then := map[string]bool{name: true}
	for n := range p.data {
		then[n] = true
	}
	if len(then) > 200 {
		return nil, api.ErrDirFull
	}
	pieces, leaves := (len(data)+1023)/1024, (len(then)+30)/31
	free := p.free()
	if len(free) < pieces+1+leaves || p.wrote+pieces+1+leaves+1 > 4096 {
		return nil, api.ErrDirDisk
	}
	var out []laid
	for i, n := range free[:pieces] {
		b := make([]byte, 1024)
		copy(b, data[1024*i:])
		out = append(out, laid{n, b})
	}
	header := free[pieces]
	out = append(out, laid{header, headerPage(0, len(data), free[:pieces]...)})
	p.data[name], p.parts[name] = data, append([]int{header}, free[:pieces]...)
	return append(out, p.lay(free[pieces+1:][:leaves])...), api.OK
}

// lay answers the writes of leaves and root.
func (p *plain) lay(leaves []int) []laid {
	var out []laid
	names := p.names()
	for i, n := range leaves {
		part := names[31*i : min(31*i+31, len(names))]
		b := page(0, cdl1, uint32(len(part)))
		for k, name := range part {
			copy(b[8+32*k:], name)
			binary.LittleEndian.PutUint32(b[8+32*k+24:], uint32(p.parts[name][0]))
			binary.LittleEndian.PutUint32(b[8+32*k+28:], uint32(len(p.data[name])))
		}
		out = append(out, laid{n, b})
	}
	root := []uint32{cdr1, uint32(len(leaves))}
	for _, n := range leaves {
		root = append(root, uint32(n))
	}
	p.leaves = slices.Clone(leaves)
	return append(out, laid{0, page(0, root...)})
}

// done notes writes that were done by others than Write, of which the book needs no bytes.
func (p *plain) done(d *disk.Disk) { p.wrote = len(d.Writes()) }

// remove and rename are those of chapter 17, of names that are there.
func (p *plain) remove(name string) {
	delete(p.data, name)
	free := p.free() // the sectors of the file are not free yet
	delete(p.parts, name)
	p.lay(free[:(len(p.data)+30)/31])
}

func (p *plain) rename(from, to string) {
	free := p.free()
	p.data[to], p.parts[to] = p.data[from], p.parts[from]
	delete(p.data, from)
	delete(p.parts, from)
	p.lay(free[:(len(p.data)+30)/31])
}

// wroteIs: were just these the writes of a disk from one on?
func wroteIs(t *testing.T, d *disk.Disk, from int, want []laid) {
	t.Helper()
	l := d.Writes()[from:]
	if len(l) != len(want) {
		t.Fatalf("writes %v, not %d", l, len(want))
	}
	for i, w := range want {
		if l[i] != w.n {
			t.Fatalf("writes %v: the one at %d is not that of %d", l, i, w.n)
		}
		left, _ := d.Cut(from + i + 1)
		if b, _ := left.Read(w.n); !bytes.Equal(b, w.b) {
			t.Fatalf("the write at %d of %v laid other bytes", i, l)
		}
	}
}

// agrees holds what is read by Read and Map, and what is free, against the book.
func (p *plain) agrees(t *testing.T, x *dir.Dir) {
	t.Helper()
	l, e := Map(x.Disk())
	if e != api.OK || !slices.Equal(l, p.files()) {
		t.Fatalf("Map: %d files, %v; not %d", len(l), e, len(p.data))
	}
	for _, f := range p.files() {
		reads(t, x, f.Name, f.Data)
	}
	if all := x.All(); len(all) != len(p.data) {
		t.Fatalf("%d files, not %d", len(all), len(p.data))
	}
	if x.Free() != len(p.free()) {
		t.Fatalf("%d are free, not %d", x.Free(), len(p.free()))
	}
}
