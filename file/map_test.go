package file

import (
	"bytes"
	"math"
	"math/rand"
	"slices"
	"testing"

	"carrel/api"
	"carrel/dir"
	"carrel/disk"
)

func TestMap(t *testing.T) { // P18.3
	want := []api.File{
		{Name: "B", Data: some(1025, 1)}, {Name: "a", Data: ""}, {Name: "a.b", Data: "\x00"},
		{Name: "aB", Data: some(5000, 2)}, {Name: "a_", Data: some(1024, 3)}, {Name: "ab", Data: "x"},
	}
	x, d := empty(t, 40)
	for _, at := range []int{3, 0, 5, 1, 4, 2} {
		writes(t, x, want[at].Name, want[at].Data)
	}
	from := len(d.Writes())
	l, e := Map(d)
	if e != api.OK || !slices.Equal(l, want) {
		t.Error(len(l), e)
	}
	clear(l[:cap(l)]) // R3: it is new memory
	if l, e := Map(d); e != api.OK || !slices.Equal(l, want) {
		t.Error(len(l), e)
	}
	if len(d.Writes()) != from {
		t.Error(d.Writes())
	}
}

func TestMapOfMany(t *testing.T) { // P18.3: all leaves
	for _, many := range []int{0, 1, 30, 31, 32, 62, 63, 199, 200} {
		want := filesOf(many)
		for i := range want {
			want[i].Data = some(i%3*600, i)
		}
		_, d := having(t, 520, want)
		if l, e := Map(d); e != api.OK || !slices.Equal(l, want) {
			t.Error(many, len(l), e)
		}
	}
}

func TestMapRefuses(t *testing.T) { // P18.3: dir.Open's error
	if l, e := Map(nil); l != nil || e != api.ErrNil {
		t.Error(l, e)
	}
	if l, e := Map(newDisk(t, 8)); l != nil || e != api.ErrDirForm {
		t.Error(l, e)
	}
	_, d := having(t, 16, []api.File{{Name: "a", Data: "x"}, {Name: "b", Data: some(2000, 1)}})
	for n := range 16 { // each sector as noughts: what the directory does not need may go
		y, _ := disk.From(d.Image())
		lay(t, y, n, page(0))
		_, want := dir.Open(y)
		l, e := Map(y)
		if e != want || e != api.OK && l != nil {
			t.Error(n, l, e)
		}
		if e == api.OK && len(l) != 2 {
			t.Error(n, l)
		}
	}
}

func TestMakeIsWrites(t *testing.T) { // P18.4: the sectors of a new disk behind Format and Write of each, in order
	r := rand.New(rand.NewSource(1))
	for range 60 {
		var l []api.File
		for _, n := range r.Perm(70)[:r.Intn(70)] {
			l = append(l, api.File{Name: nth(n), Data: some(r.Intn(3)*r.Intn(3000), n)})
		}
		sectors := 300 + r.Intn(50)
		x, written := empty(t, sectors)
		for _, f := range l {
			writes(t, x, f.Name, f.Data)
		}
		d, e := Make(sectors, l)
		if e != api.OK || d.Sectors() != sectors || len(d.Writes()) != 0 {
			t.Fatal(e)
		}
		if !bytes.Equal(d.Image(), written.Image()) { // the leaves that there were, too
			t.Fatalf("%d files: other sectors", len(l))
		}
		whole, e := d.Cut(0) // it is as it was at its making
		if e != api.OK || !bytes.Equal(whole.Image(), d.Image()) {
			t.Fatal(e)
		}
	}
}

func TestMakeWorksOn(t *testing.T) { // P18.4: it was not written, and bears all its writes
	x, d := having(t, 16, []api.File{{Name: "a", Data: "x"}})
	writes(t, x, "b", "y")
	if l := d.Writes(); !slices.Equal(l, []int{4, 5, 6, 0}) {
		t.Error(l)
	}
	if l, e := Map(d); e != api.OK || len(l) != 2 {
		t.Error(l, e)
	}
	wear(t, d, 0)
	if len(d.Writes()) != 4096 {
		t.Error(len(d.Writes()))
	}
}

func TestMakeNone(t *testing.T) { // P18.4: no files; R3: nil and empty lists are one
	for _, l := range [][]api.File{nil, {}} {
		for _, sectors := range []int{8, 1024} {
			d, e := Make(sectors, l)
			if e != api.OK || d.Sectors() != sectors || len(d.Writes()) != 0 {
				t.Fatal(e)
			}
			sectorIs(t, d, 0, page(0, cdr1, 0))
			if l, e := Map(d); len(l) != 0 || e != api.OK {
				t.Error(l, e)
			}
		}
	}
}

func TestMakeSizes(t *testing.T) { // P18.4: ErrDiskSize, ahead of what the files are
	wrong := []api.File{{Name: "1"}, {Name: "1"}}
	for _, sectors := range []int{7, 0, -1, 1025, math.MaxInt, math.MinInt, 1 << 32, 1<<32 + 8} {
		for _, l := range [][]api.File{nil, filesOf(3), wrong} {
			if d, e := Make(sectors, l); d != nil || e != api.ErrDiskSize {
				t.Error(sectors, d, e)
			}
		}
	}
}

func TestMakeErrors(t *testing.T) { // P18.4: the first, file by file; ErrDirHas ahead of Write's
	long := some(256001, 1)
	a, b := api.File{Name: "a", Data: "x"}, api.File{Name: "b"}
	for _, one := range []struct {
		what string
		l    []api.File
		want api.Errno
	}{
		{"a name twice", []api.File{a, b, a}, api.ErrDirHas},
		{"a name twice, with other bytes", []api.File{a, {Name: "a", Data: "y"}}, api.ErrDirHas},
		{"twice, then no name", []api.File{a, a, {Name: "1"}}, api.ErrDirHas},
		{"no name, then twice", []api.File{a, {Name: "1"}, a}, api.ErrDirName},
		{"no name, twice", []api.File{{}, {}}, api.ErrDirName},
		{"twice, and too long", []api.File{a, {Name: "a", Data: long}}, api.ErrDirHas},
		{"too long, then twice", []api.File{a, {Name: "b", Data: long}, a}, api.ErrFileLong},
		{"too long, twice", []api.File{{Name: "b", Data: long}, {Name: "b", Data: long}}, api.ErrFileLong},
		{"too long, then no name", []api.File{{Name: "b", Data: long}, {Name: "1"}}, api.ErrFileLong},
		{"no name, and too long", []api.File{{Name: "1", Data: long}}, api.ErrDirName},
		{"no room", []api.File{a, {Name: "b", Data: some(12000, 1)}, a}, api.ErrDirDisk},
		{"twice, and no room", []api.File{a, {Name: "a", Data: some(12000, 1)}}, api.ErrDirHas},
		{"no room, then no name", []api.File{a, {Name: "b", Data: some(12000, 1)}, {}}, api.ErrDirDisk},
	} {
		if d, e := Make(14, one.l); d != nil || e != one.want {
			t.Errorf("%s: %v, %v", one.what, d, e)
		}
	}
}

func TestMakeFull(t *testing.T) { // P18.4: ErrDirFull, of the file that is too many
	if _, e := Make(1024, filesOf(200)); e != api.OK {
		t.Error(e)
	}
	if d, e := Make(1024, filesOf(201)); d != nil || e != api.ErrDirFull {
		t.Error(d, e)
	}
	if d, e := Make(1024, append(filesOf(200), api.File{Name: nth(0)})); d != nil || e != api.ErrDirHas {
		t.Error(d, e)
	}
	if d, e := Make(1024, append(filesOf(200), api.File{Name: "1"})); d != nil || e != api.ErrDirName {
		t.Error(d, e)
	}
	if d, e := Make(1024, slices.Repeat(filesOf(1), 1<<20)); d != nil || e != api.ErrDirHas {
		t.Error(d, e)
	}
}

func TestMakeKeepsNothing(t *testing.T) { // R3
	l := make([]api.File, 2, 5)
	l[0], l[1] = api.File{Name: "b", Data: "x"}, api.File{Name: "a", Data: "y"}
	spare := l[:5]
	spare[3] = api.File{Name: "spare", Data: "room"}
	want := slices.Clone(spare)
	d, e := Make(16, l)
	if e != api.OK || !slices.Equal(spare, want) {
		t.Error(e, spare)
	}
	clear(spare)
	if l, e := Map(d); e != api.OK || !slices.Equal(l, []api.File{{Name: "a", Data: "y"}, {Name: "b", Data: "x"}}) {
		t.Error(l, e)
	}
}

func TestMakeGreatest(t *testing.T) { // 5 files have 1016 data sectors and 5 headers, the root, a leaf, and the one of ahead: 1024
	var l []api.File
	for n := range 4 {
		l = append(l, api.File{Name: nth(n), Data: some(256000, n)})
	}
	l = append(l, api.File{Name: "last", Data: some(16*1024, 4)})
	d, e := Make(1024, l)
	if e != api.OK {
		t.Fatal(e)
	}
	if got, e := Map(d); e != api.OK || !slices.Equal(got, l) {
		t.Error(len(got), e)
	}
	l[4].Data += "x"
	if d, e := Make(1024, l); d != nil || e != api.ErrDirDisk {
		t.Error(d, e)
	}
}
