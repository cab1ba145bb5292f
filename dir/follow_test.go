package dir

import (
	"math/rand"
	"slices"
	"testing"

	"carrel/api"
	"carrel/disk"
)

// Calls of chance, held against the chapter told plainly.

// player does the same with a Dir and with the book of one.
type player struct {
	*rand.Rand
	x     *Dir
	d     *disk.Disk
	p     *plainDir
	names []string
	told  map[string]int // how often each call has told each error
}

func newPlayer(t *testing.T, seed int64, told map[string]int) *player {
	t.Helper()
	r := rand.New(rand.NewSource(seed))
	x, d := empty(t, 8+r.Intn(16)*r.Intn(10))
	y := &player{Rand: r, x: x, d: d, told: told}
	y.p, _ = plainRead(d.Image())
	y.names = []string{"a", "b", "B", "a.b", "a_", "z9", "1", ""}
	for n := range r.Intn(60) {
		y.names = append(y.names, nth(n))
	}
	return y
}

func (y *player) name() string { return y.names[y.Intn(len(y.names))] }

// sector is mostly one that was taken.
func (y *player) sector() int {
	if y.Intn(60) == 0 {
		return y.Intn(y.p.sectors+2) - 1
	}
	for range 40 {
		if n := y.Intn(y.p.sectors); y.p.taken[n] {
			return n
		}
	}
	return 1
}

// entry is one whose header was written, mostly as it should be.
func (y *player) entry(t *testing.T) api.Entry {
	t.Helper()
	length := y.Intn(2) * y.Intn(3000)
	var l []int
	for len(l) < 1+(length+1023)/1024 {
		n := y.sector()
		for i := 0; i < 20 && slices.Contains(l, n); i++ {
			n = y.sector()
		}
		l = append(l, n)
	}
	e := api.Entry{Name: y.name(), Header: l[0], Len: length}
	if y.Intn(20) == 0 {
		length += y.Intn(3) - 1
	}
	if y.p.taken[e.Header] && y.Intn(30) > 0 {
		write(t, y.d, e.Header, headerPage(byte(y.Intn(2)), length, l[1:]...))
	}
	return e
}

// same asks whether both have told the same.
func (y *player) same(t *testing.T, what string, got, want api.Errno) {
	t.Helper()
	y.told[what+": "+want.Error()]++
	if got != want {
		t.Fatalf("%s: %v, not %v", what, got, want)
	}
}

// small takes, or gives back.
func (y *player) small(t *testing.T) {
	t.Helper()
	from := len(y.d.Writes())
	if y.Intn(4) > 0 {
		m, want := y.p.take()
		n, got := y.x.Take()
		y.same(t, "Take", got, want)
		if n != m {
			t.Fatalf("Take: %d, not %d", n, m)
		}
	} else {
		n := y.sector()
		want := y.p.give(n)
		y.same(t, "Give", y.x.Give(n), want)
	}
	if len(wrote(y.d, from)) != 0 {
		t.Fatal("Take or Give wrote")
	}
	y.p.agrees(t, y.x)
}

// great does a change.
func (y *player) great(t *testing.T) {
	t.Helper()
	e, a, b := y.entry(t), y.name(), y.name()
	ahead, _ := plainRead(y.d.Image())
	from := len(y.d.Writes())
	var writes []int
	var want api.Errno
	switch y.Intn(7) {
	case 0:
		writes, want = y.p.remove(y.d, a)
		y.same(t, "Delete", y.x.Delete(a), want)
	case 1:
		writes, want = y.p.rename(y.d, a, b)
		y.same(t, "Rename", y.x.Rename(a, b), want)
	default:
		writes, want = y.p.insert(y.d, e)
		y.same(t, "Insert", y.x.Insert(e), want)
	}
	if !slices.Equal(wrote(y.d, from), writes) {
		t.Fatalf("writes %v, not %v", wrote(y.d, from), writes)
	}
	y.p.agrees(t, y.x)
	cuts(t, y.d, from, ahead, y.p)
	if z := opens(t, y.d); z.Free() != y.x.Free()+len(y.p.taken) {
		t.Fatalf("Free: %d; anew %d, with %d that were taken", y.x.Free(), z.Free(), len(y.p.taken))
	}
}

// cuts asks what a disk was at each write of a change, from the write from on.
func cuts(t *testing.T, d *disk.Disk, from int, ahead, behind *plainDir) {
	t.Helper()
	last := len(d.Writes())
	for k := from; k <= last; k++ {
		left, e := d.Cut(k)
		if e != api.OK {
			t.Fatal(e)
		}
		want := ahead
		if k == last {
			want = behind
		}
		want.isOn(t, left)
		if l := opens(t, left).All(); !slices.Equal(l, want.all()) {
			t.Fatalf("behind %d of %d writes: %v, not %v", k-from, last-from, l, want.all())
		}
	}
}

func TestCallsOfChance(t *testing.T) { // P17.2 to P17.5, P17.7, P17.8
	told := map[string]int{}
	for seed := range int64(60) {
		y := newPlayer(t, seed, told)
		for range 150 {
			for range y.Intn(4) {
				y.small(t)
			}
			y.great(t)
		}
	}
	for call, errors := range map[string][]api.Errno{
		"Take":   {api.OK, api.ErrDirDisk},
		"Give":   {api.OK, api.ErrArg},
		"Insert": {api.OK, api.ErrDirName, api.ErrArg, api.ErrDirDisk},
		"Delete": {api.OK, api.ErrDirNone, api.ErrDirDisk},
		"Rename": {api.OK, api.ErrDirName, api.ErrDirNone, api.ErrDirHas, api.ErrDirDisk},
	} {
		for _, e := range errors {
			if told[call+": "+e.Error()] < 10 {
				t.Errorf("%s has told %v %d times", call, e, told[call+": "+e.Error()])
			}
		}
	}
}

func TestWornByChance(t *testing.T) { // P17.4, P17.5: up to the last write that the disk bears
	for seed := range int64(8) {
		y := newPlayer(t, 100+seed, map[string]int{})
		wear(t, y.d, 60)
		y.p.agrees(t, y.x)
		for len(y.d.Writes()) < 4094 { // an entry may write a header
			y.small(t)
			y.great(t)
		}
	}
}

func TestCutsOfManyFiles(t *testing.T) { // P17.7: of changes that lay several leaves
	for _, c := range changes() {
		x, header := prepared(t, c, 20, 500)
		d := x.Disk()
		ahead, _ := plainRead(d.Image())
		from := len(d.Writes())
		if e := c.do(x, header); e != api.OK {
			t.Fatalf("%s: %v", c.what, e)
		}
		if many := len(wrote(d, from)); many != c.leaves+1 {
			t.Errorf("%s: %d writes", c.what, many)
		}
		behind, ok := plainRead(d.Image())
		if !ok || slices.Equal(behind.all(), ahead.all()) {
			t.Fatalf("%s: %v", c.what, behind)
		}
		cuts(t, d, from, ahead, behind)
	}
}
