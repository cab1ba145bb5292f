package dir

import (
	"bytes"
	"math"
	"slices"
	"strings"
	"testing"

	"carrel/api"
	"carrel/disk"
)

func TestFind(t *testing.T) { // P17.2
	x, _ := empty(t, 60)
	var want []api.Entry
	for _, name := range []string{"m", "B", "b", "a.c", "a", "a_c", "z9", strings.Repeat("q", 23), "aa"} {
		if one, e := x.Find(name); one != (api.Entry{}) || e != api.ErrDirNone {
			t.Error(name, one, e)
		}
		want = append(want, adds(t, x, name, len(want)*300))
		for _, f := range want {
			if one, e := x.Find(f.Name); one != f || e != api.OK {
				t.Error(f, one, e)
			}
		}
	}
	for _, name := range []string{"", "1", "A", "ab", "a.", "B\x00", "zz", " a", strings.Repeat("q", 22), strings.Repeat("q", 24)} {
		if one, e := x.Find(name); one != (api.Entry{}) || e != api.ErrDirNone {
			t.Errorf("%q: %v, %v", name, one, e)
		}
	}
}

func TestAll(t *testing.T) { // P17.2: names stand bytewise
	x, d := empty(t, 60)
	if len(x.All()) != 0 {
		t.Error(x.All())
	}
	names := []string{"b", "a", "Z", "a.b", "a_b", "aB", "ab", "a1", "A", "a.", "a..", "aa"}
	for _, name := range names {
		adds(t, x, name, 1)
	}
	slices.Sort(names)
	for _, y := range []*Dir{x, opens(t, d)} {
		var got []string
		for _, e := range y.All() {
			got = append(got, e.Name)
		}
		if !slices.Equal(got, names) {
			t.Error(got)
		}
	}
}

func TestTake(t *testing.T) { // P17.3: the least free one, and nothing is written
	x, d := empty(t, 12)
	adds(t, x, "a", 1024) // its header 1, its data 2, the leaf 3
	ahead := d.Image()
	writes := len(d.Writes())
	for want := 4; want < 12; want++ {
		if x.Free() != 12-want {
			t.Error("Free", x.Free())
		}
		if n, e := x.Take(); n != want || e != api.OK {
			t.Errorf("Take: %d, %v, not %d", n, e, want)
		}
	}
	unchanged(t, "all are taken", x, api.ErrDirDisk, func() api.Errno {
		n, e := x.Take()
		if n != 0 || x.Free() != 0 {
			t.Error(n, x.Free())
		}
		return e
	})
	for i, n := range []int{9, 4, 11, 6} {
		if e := x.Give(n); e != api.OK || x.Free() != i+1 {
			t.Error(n, e, x.Free())
		}
	}
	if l := takes(t, x, 4); !slices.Equal(l, []int{4, 6, 9, 11}) {
		t.Error(l)
	}
	if !bytes.Equal(d.Image(), ahead) || len(d.Writes()) != writes {
		t.Error("the disk was written")
	}
}

// strangers are numbers that no Dir of so many sectors has given.
func strangers(sectors int) []int {
	return []int{math.MinInt, -sectors, -1, 0, sectors, sectors + 1, 1024, 1 << 32, 1<<32 + 1, math.MaxInt}
}

func TestGive(t *testing.T) { // P17.3
	x, _ := empty(t, 12)
	adds(t, x, "a", 1024)
	takes(t, x, 3) // 4, 5, 6
	for _, n := range append(strangers(12), 1, 2, 3, 7, 11) {
		unchanged(t, "not taken", x, api.ErrArg, func() api.Errno { return x.Give(n) })
	}
	for _, n := range []int{5, 4, 6} {
		if e := x.Give(n); e != api.OK {
			t.Error(n, e)
		}
		unchanged(t, "given back already", x, api.ErrArg, func() api.Errno { return x.Give(n) })
	}
	takes(t, x, 1)
	if e := x.Give(4); e != api.OK { // it was taken once more
		t.Error(e)
	}
}

func TestGiveOfAFilesSectors(t *testing.T) { // P17.3: Insert has given them back
	x, _ := empty(t, 12)
	e, sectors := ready(t, x, "a", 3000)
	one := takes(t, x, 1)[0]
	if no := x.Insert(e); no != api.OK {
		t.Fatal(no)
	}
	for _, n := range sectors {
		unchanged(t, "a file's", x, api.ErrArg, func() api.Errno { return x.Give(n) })
	}
	if no := x.Delete("a"); no != api.OK {
		t.Fatal(no)
	}
	for _, n := range sectors {
		unchanged(t, "a file's that is gone", x, api.ErrArg, func() api.Errno { return x.Give(n) })
	}
	if l := takes(t, x, 4); !slices.Equal(l, sectors) {
		t.Error(l)
	}
	for _, n := range append(sectors, one) {
		if no := x.Give(n); no != api.OK {
			t.Error(n, no)
		}
	}
	if x.Free() != 11 {
		t.Error(x.Free())
	}
}

func TestTakenIsADirsOwn(t *testing.T) { // P17.3: another one of the same disk does not know of it
	x, d := empty(t, 12)
	takes(t, x, 5)
	y := opens(t, d)
	if x.Free() != 6 || y.Free() != 11 {
		t.Error(x.Free(), y.Free())
	}
	if e := y.Give(1); e != api.ErrArg {
		t.Error(e)
	}
	if l := takes(t, y, 2); !slices.Equal(l, []int{1, 2}) {
		t.Error(l)
	}
}

func TestFree(t *testing.T) { // P17.8
	x, d := empty(t, 400)
	files, taken := 0, 0
	ask := func(what string) {
		t.Helper()
		data := 0
		for _, e := range x.All() {
			data += 1 + (e.Len+1023)/1024
		}
		if want := 400 - 1 - (files+30)/31 - data - taken; x.Free() != want {
			t.Errorf("%s: %d, not %d", what, x.Free(), want)
		}
		if y := opens(t, d); y.Free() != x.Free()+taken {
			t.Errorf("%s: %d of a new Dir, not %d", what, y.Free(), x.Free()+taken)
		}
	}
	ask("no files")
	for n := range 40 {
		adds(t, x, nth(n), n*200)
		files++
		ask("a file more")
		if n%3 == 0 {
			takes(t, x, 1)
			taken++
			ask("a sector is taken")
		}
	}
	for n := range 40 {
		if e := x.Delete(nth(n)); e != api.OK {
			t.Fatal(e)
		}
		files--
		ask("a file less")
	}
}

func TestNilDir(t *testing.T) { // P17.6, R4
	var x *Dir
	for _, s := range []string{"", "a", "1"} {
		if one, e := x.Find(s); one != (api.Entry{}) || e != api.ErrNil {
			t.Error("Find", one, e)
		}
		if e := x.Insert(api.Entry{Name: s, Header: 1}); e != api.ErrNil {
			t.Error("Insert", e)
		}
		if e := x.Delete(s); e != api.ErrNil {
			t.Error("Delete", e)
		}
		if e := x.Rename(s, s); e != api.ErrNil {
			t.Error("Rename", e)
		}
	}
	if n, e := x.Take(); n != 0 || e != api.ErrNil {
		t.Error("Take", n, e)
	}
	for _, n := range strangers(8) {
		if e := x.Give(n); e != api.ErrNil {
			t.Error("Give", e)
		}
	}
	if len(x.All()) != 0 || x.Free() != 0 || x.Disk() != nil {
		t.Error("it has something")
	}
}

func TestDirThatNoCallGave(t *testing.T) { // R1: no call panics
	x := &Dir{}
	if one, e := x.Find("a"); one != (api.Entry{}) || e != api.ErrDirNone {
		t.Error("Find", one, e)
	}
	for _, n := range strangers(8) {
		if e := x.Insert(api.Entry{Name: "a", Header: n}); e != api.ErrArg {
			t.Error("Insert", e)
		}
		if e := x.Give(n); e != api.ErrArg {
			t.Error("Give", e)
		}
	}
	if e := x.Delete("a"); e != api.ErrDirNone {
		t.Error("Delete", e)
	}
	if e := x.Rename("a", "b"); e != api.ErrDirNone {
		t.Error("Rename", e)
	}
	if n, e := x.Take(); n != 0 || e != api.ErrDirDisk {
		t.Error("Take", n, e)
	}
	if len(x.All()) != 0 || x.Free() != 0 || x.Disk() != nil {
		t.Error("it has something")
	}
}

func TestWhatIsAnsweredIsNew(t *testing.T) { // P17.6, R3: spare room too
	x, d := empty(t, 60)
	addsMany(t, x, 40)
	want := x.All()
	fourth := want[3]
	for range 2 {
		l := x.All()
		l = l[:cap(l)]
		for i := range l {
			l[i] = api.Entry{Name: "spoilt", Header: 77, Len: 77}
		}
		if !slices.Equal(x.All(), want) {
			t.Fatal("the Dir was written into")
		}
	}
	if e := x.Delete(nth(3)); e != api.OK {
		t.Error(e)
	}
	if !slices.Equal(want, slices.Insert(x.All(), 3, fourth)) {
		t.Error("what was answered ahead has changed", want[3])
	}
	p, ok := plainRead(d.Image())
	if !ok {
		t.Fatal("no directory")
	}
	p.agrees(t, x)
}

func TestDirsOfTwoDisks(t *testing.T) { // R4: neither knows of the other one
	x, d := empty(t, 20)
	y, c := empty(t, 20)
	adds(t, x, "a", 100)
	adds(t, y, "b", 2000)
	if e := x.Rename("b", "c"); e != api.ErrDirNone {
		t.Error(e)
	}
	for _, one := range []struct {
		x *Dir
		d *disk.Disk
	}{{x, d}, {y, c}} {
		p, ok := plainRead(one.d.Image())
		if !ok || one.x.Disk() != one.d {
			t.Fatal("no directory")
		}
		p.agrees(t, one.x)
	}
}
