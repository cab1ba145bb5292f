package file

import (
	"math/rand"
	"slices"
	"strings"
	"testing"

	"carrel/api"
	"carrel/dir"
	"carrel/disk"
)

// Calls of chance, held against the chapter told plainly, and 'What follows'.

// player does the same with a Dir and with the book of its disk.
type player struct {
	*rand.Rand
	x     *dir.Dir
	d     *disk.Disk
	p     *plain
	names []string
	told  map[string]int // how often Write has told each error
}

func newPlayer(t *testing.T, seed int64, told map[string]int) *player {
	t.Helper()
	r := rand.New(rand.NewSource(seed))
	sectors := 8 + r.Intn(20)*r.Intn(16)
	x, d := empty(t, sectors)
	y := &player{Rand: r, x: x, d: d, p: newPlain(sectors), told: told}
	y.names = []string{"a", "b", "B", "a.b", "a_", "1", "", strings.Repeat("n", 23), strings.Repeat("n", 24)}
	for n := range r.Intn(4) * r.Intn(70) {
		y.names = append(y.names, nth(n))
	}
	return y
}

func (y *player) name() string { return y.names[y.Intn(len(y.names))] }

func (y *player) data() string {
	switch y.Intn(12) {
	case 0:
		return some(y.Intn(2)*250000+y.Intn(8000), y.Int())
	case 1, 2, 3:
		return some(y.Intn(9000), y.Int())
	case 4:
		return some(1024*y.Intn(4), y.Int())
	}
	return some(y.Intn(30), y.Int())
}

// writes does a Write, and asks what the disk was at each of its writes.
func (y *player) writes(t *testing.T) {
	t.Helper()
	name, data := y.name(), y.data()
	from, ahead := len(y.d.Writes()), y.p.files()
	want, no := y.p.write(name, data)
	e := Write(y.x, name, data)
	y.told[e.Error()]++
	if e != no {
		t.Fatalf("Write(%q, %d bytes): %v, not %v", name, len(data), e, no)
	}
	wroteIs(t, y.d, from, want)
	for k := range want {
		left, _ := y.d.Cut(from + k)
		if l, e := Map(left); e != api.OK || !slices.Equal(l, ahead) {
			t.Fatalf("behind %d of %d writes: %d files, %v", k, len(want), len(l), e)
		}
	}
}

// others does what else may be done to a directory.
func (y *player) others(t *testing.T) {
	t.Helper()
	from, to := y.name(), y.name()
	_, there := y.p.data[from]
	_, has := y.p.data[to]
	switch y.Intn(5) {
	case 0, 1:
		if y.x.Delete(from) == api.OK {
			y.p.remove(from)
		} else if there && y.x.Free() > 7 {
			t.Fatal("not deleted")
		}
	case 2:
		if y.x.Rename(from, to) == api.OK {
			y.p.rename(from, to)
		} else if there && !has && plainName.MatchString(to) && y.x.Free() > 7 {
			t.Fatal("not renamed")
		}
	case 3:
		if n, e := y.x.Take(); e == api.OK {
			y.p.taken[n] = true
		}
	case 4:
		n := y.Intn(y.p.sectors)
		if y.x.Give(n) == api.OK {
			delete(y.p.taken, n)
		}
	}
}

func TestWritesByChance(t *testing.T) { // P18.1 to P18.3, 'What follows'
	told := map[string]int{}
	for seed := range int64(150) {
		y := newPlayer(t, seed, told)
		for range 10 + y.Intn(60) {
			if y.Intn(4) > 0 {
				y.writes(t)
			} else {
				y.others(t)
			}
			y.p.done(y.d)
			y.p.agrees(t, y.x)
		}
	}
	for _, e := range []api.Errno{api.OK, api.ErrDirName, api.ErrFileLong, api.ErrDirDisk} {
		if told[e.Error()] < 20 {
			t.Errorf("%v was told %d times: %v", e, told[e.Error()], told)
		}
	}
}

func TestWritesOfMany(t *testing.T) { // up to ErrDirFull
	x, d := empty(t, 900)
	p := newPlain(900)
	r := rand.New(rand.NewSource(7))
	for _, n := range append(r.Perm(210), r.Perm(210)[:40]...) {
		from := len(d.Writes())
		data := some(r.Intn(1500), n)
		want, no := p.write(nth(n), data)
		if e := Write(x, nth(n), data); e != no {
			t.Fatalf("%d files: %v, not %v", len(p.data), e, no)
		}
		wroteIs(t, d, from, want)
		p.done(d)
	}
	p.agrees(t, x)
	if len(p.data) != 200 {
		t.Error(len(p.data))
	}
	refuses(t, x, "more", "", api.ErrDirFull)
}

func TestWriteUpToTheEnd(t *testing.T) { // one file anew, till the disk bears no more
	x, d := empty(t, 20)
	p := newPlain(20)
	for n := 0; ; n++ {
		from := len(d.Writes())
		want, no := p.write("a", some(n%4000, n))
		e := Write(x, "a", some(n%4000, n))
		if e != no {
			t.Fatal(n, e, no)
		}
		if e != api.OK {
			break
		}
		wroteIs(t, d, from, want)
		p.done(d)
	}
	if many := len(d.Writes()); many < 4089 || many > 4096 {
		t.Error(many)
	}
	p.agrees(t, x)
}

func TestMakeInAnyOrder(t *testing.T) { // 'What follows': the files do not hang on their order, nor does whether they have room
	r := rand.New(rand.NewSource(3))
	full := 0
	for range 150 {
		var l []api.File
		for n := range r.Intn(80) {
			l = append(l, api.File{Name: nth(n), Data: some(r.Intn(2)*r.Intn(4000), n)})
		}
		sectors := 1 + (len(l)+30)/31 + len(l)
		for _, f := range l {
			sectors += (len(f.Data) + 1023) / 1024
		}
		sectors = max(8, sectors+r.Intn(6)) // about what they need: the leaves of ahead have to have room, too
		_, want := Make(sectors, l)
		for range 4 {
			mixed := slices.Clone(l)
			r.Shuffle(len(l), func(i, k int) { mixed[i], mixed[k] = mixed[k], mixed[i] })
			d, e := Make(sectors, mixed)
			if e != want {
				t.Fatalf("%d files on %d sectors: %v, and %v", len(l), sectors, e, want)
			}
			if e != api.OK {
				full++
				continue
			}
			if got, e := Map(d); e != api.OK || !slices.Equal(got, l) {
				t.Fatal(len(got), len(l), e)
			}
		}
	}
	if full < 50 || full > 500 {
		t.Error(full)
	}
}

func TestCutsOfWrites(t *testing.T) { // 'What follows': a directory at each write, with the files of ahead up to the last one
	for _, many := range []int{0, 1, 30, 31, 62, 199} {
		for _, name := range []string{nth(0), "z"} {
			x, d := having(t, 260, filesOf(many))
			ahead, _ := Map(d)
			writes(t, x, name, some(2500, 1))
			behind, _ := Map(d)
			last := len(d.Writes())
			if last < 6 {
				t.Error(last)
			}
			for k := range last + 1 {
				left, _ := d.Cut(k)
				want := ahead
				if k == last {
					want = behind
				}
				if l, e := Map(left); e != api.OK || !slices.Equal(l, want) {
					t.Fatalf("%s of %d: behind %d of %d writes: %d files, %v", name, many, k, last, len(l), e)
				}
			}
		}
	}
}
