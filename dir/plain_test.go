package dir

import (
	"encoding/binary"
	"regexp"
	"slices"
	"strings"
	"testing"

	"carrel/api"
	"carrel/disk"
)

// The chapter, told plainly once more.

var plainName = regexp.MustCompile(`^[a-zA-Z][a-zA-Z0-9._]{0,22}$`)

func plainIsName(s string) bool { return plainName.MatchString(s) && !strings.HasSuffix(s, "\n") }

// plainFile is an entry, and all of its sectors.
type plainFile struct {
	entry   api.Entry
	sectors []int
}

// plainDir is the book of a directory.
type plainDir struct {
	sectors int
	files   map[string]plainFile
	leaves  []int
	taken   map[int]bool
}

// plainRead is the directory of an image, if it has one.
func plainRead(image []byte) (*plainDir, bool) {
	p := &plainDir{sectors: len(image) / 1024, files: map[string]plainFile{}, taken: map[int]bool{}}
	at := func(sector uint32, place int) uint32 {
		return binary.LittleEndian.Uint32(image[1024*int(sector)+place:])
	}
	used := map[uint32]bool{0: true}
	ok := true
	use := func(n uint32) bool {
		if n >= uint32(p.sectors) || used[n] {
			ok = false
		}
		used[n] = true
		return ok
	}
	if p.sectors == 0 || at(0, 0) != 0x31524443 || at(0, 4) > 7 {
		return nil, false
	}
	last := ""
	for i := range int(at(0, 4)) {
		leaf := at(0, 8+4*i)
		if !use(leaf) || at(leaf, 0) != 0x314C4443 || at(leaf, 4) < 1 || at(leaf, 4) > 31 || at(leaf, 4) < 31 && i < int(at(0, 4))-1 {
			return nil, false
		}
		p.leaves = append(p.leaves, int(leaf))
		for k := range int(at(leaf, 4)) {
			b := image[1024*int(leaf)+8+32*k:]
			name := strings.TrimRight(string(b[:24]), "\x00")
			header, length := at(leaf, 8+32*k+24), at(leaf, 8+32*k+28)
			if !plainIsName(name) || name <= last || !use(header) || at(header, 0) != 0x31484643 || at(header, 4) != length || length > 256000 {
				return nil, false
			}
			last = name
			f := plainFile{api.Entry{Name: name, Header: int(header), Len: int(length)}, []int{int(header)}}
			for j := 0; j*1024 < int(length); j++ {
				f.sectors = append(f.sectors, int(at(header, 8+4*j)))
				if !use(at(header, 8+4*j)) {
					return nil, false
				}
			}
			p.files[name] = f
		}
	}
	return p, ok && len(p.files) <= 200
}

func (p *plainDir) all() []api.Entry {
	var l []api.Entry
	for _, f := range p.files {
		l = append(l, f.entry)
	}
	slices.SortFunc(l, func(a, b api.Entry) int { return strings.Compare(a.Name, b.Name) })
	return l
}

// free are the free sectors, rising.
func (p *plainDir) free() []int {
	used := map[int]bool{0: true}
	for _, n := range p.leaves {
		used[n] = true
	}
	for _, f := range p.files {
		for _, n := range f.sectors {
			used[n] = true
		}
	}
	var l []int
	for n := range p.sectors {
		if !used[n] && !p.taken[n] {
			l = append(l, n)
		}
	}
	return l
}

func (p *plainDir) take() (int, api.Errno) {
	l := p.free()
	if len(l) == 0 {
		return 0, api.ErrDirDisk
	}
	p.taken[l[0]] = true
	return l[0], api.OK
}

func (p *plainDir) give(n int) api.Errno {
	if !p.taken[n] {
		return api.ErrArg
	}
	delete(p.taken, n)
	return api.OK
}

// lay answers the writes that there must be.
func (p *plainDir) lay(d *disk.Disk, many int) ([]int, api.Errno) {
	free := p.free()
	leaves := (many + 30) / 31
	if leaves > len(free) || len(d.Writes())+leaves+1 > 4096 {
		return nil, api.ErrDirDisk
	}
	p.leaves = free[:leaves]
	return append(slices.Clone(p.leaves), 0), api.OK
}

func (p *plainDir) insert(d *disk.Disk, e api.Entry) ([]int, api.Errno) {
	if !plainIsName(e.Name) {
		return nil, api.ErrDirName
	}
	f := plainFile{entry: e, sectors: []int{e.Header}}
	if !p.taken[e.Header] {
		return nil, api.ErrArg
	}
	b, _ := d.Read(e.Header)
	if binary.LittleEndian.Uint32(b) != 0x31484643 || int(binary.LittleEndian.Uint32(b[4:])) != e.Len || e.Len > 256000 {
		return nil, api.ErrArg
	}
	for j := 0; j*1024 < e.Len; j++ {
		n := int(binary.LittleEndian.Uint32(b[8+4*j:]))
		if !p.taken[n] || slices.Contains(f.sectors, n) {
			return nil, api.ErrArg
		}
		f.sectors = append(f.sectors, n)
	}
	many := len(p.files)
	if _, there := p.files[e.Name]; !there {
		many++
	}
	if many > 200 {
		return nil, api.ErrDirFull
	}
	writes, no := p.lay(d, many)
	if no == api.OK {
		p.files[e.Name] = f
		for _, n := range f.sectors {
			delete(p.taken, n)
		}
	}
	return writes, no
}

func (p *plainDir) remove(d *disk.Disk, name string) ([]int, api.Errno) {
	if _, there := p.files[name]; !there {
		return nil, api.ErrDirNone
	}
	writes, no := p.lay(d, len(p.files)-1)
	if no == api.OK {
		delete(p.files, name)
	}
	return writes, no
}

func (p *plainDir) rename(d *disk.Disk, from, to string) ([]int, api.Errno) {
	f, there := p.files[from]
	_, has := p.files[to]
	switch {
	case !plainIsName(to):
		return nil, api.ErrDirName
	case !there:
		return nil, api.ErrDirNone
	case has:
		return nil, api.ErrDirHas
	}
	writes, no := p.lay(d, len(p.files))
	if no == api.OK {
		delete(p.files, from)
		f.entry.Name = to
		p.files[to] = f
	}
	return writes, no
}

// agrees holds what a Dir tells against the book, and the book against the disk.
func (p *plainDir) agrees(t *testing.T, x *Dir) {
	t.Helper()
	if all := x.All(); !slices.Equal(all, p.all()) {
		t.Fatalf("All: %v, not %v", all, p.all())
	}
	if many := x.Free(); many != len(p.free()) {
		t.Fatalf("Free: %d, not %d", many, len(p.free()))
	}
	p.isOn(t, x.Disk())
}

// isOn: has a disk this directory?
func (p *plainDir) isOn(t *testing.T, d *disk.Disk) {
	t.Helper()
	there, ok := plainRead(d.Image())
	if !ok {
		t.Fatal("the disk has no directory")
	}
	if !slices.Equal(there.all(), p.all()) || !slices.Equal(there.leaves, p.leaves) {
		t.Fatalf("on the disk: %v, leaves %v; not %v, leaves %v", there.all(), there.leaves, p.all(), p.leaves)
	}
	for name, f := range p.files {
		if !slices.Equal(there.files[name].sectors, f.sectors) {
			t.Fatalf("on the disk %s has %v, not %v", name, there.files[name].sectors, f.sectors)
		}
	}
}
