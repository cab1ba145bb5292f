package disk

import (
	"bytes"
	"math"
	"math/rand"
	"slices"
	"testing"

	"carrel/api"
)

// filled are a sector's bytes, all the same.
func filled(x byte) []byte { return bytes.Repeat([]byte{x}, api.SectorBytes) }

// mixed are so many bytes that differ from sector to sector and within one, with a blank sector among them.
func mixed(sectors int) []byte {
	b := make([]byte, sectors*api.SectorBytes)
	for i := range b {
		if n := i / api.SectorBytes; n != 2 {
			b[i] = byte(i*7 + n*31 + 1)
		}
	}
	return b
}

func newDisk(t *testing.T, sectors int) *Disk {
	t.Helper()
	d, e := New(sectors)
	if e != api.OK || d == nil {
		t.Fatalf("New(%d): %v, %v", sectors, d, e)
	}
	return d
}

func fromImage(t *testing.T, b []byte) *Disk {
	t.Helper()
	d, e := From(b)
	if e != api.OK || d == nil {
		t.Fatalf("From(%d bytes): %v, %v", len(b), d, e)
	}
	return d
}

func writeTo(t *testing.T, d *Disk, n int, b []byte) {
	t.Helper()
	if e := d.Write(n, b); e != api.OK {
		t.Fatalf("Write(%d): %v", n, e)
	}
}

func cutOf(t *testing.T, d *Disk, writes int) *Disk {
	t.Helper()
	c, e := d.Cut(writes)
	if e != api.OK || c == nil {
		t.Fatalf("Cut(%d): %v, %v", writes, c, e)
	}
	return c
}

func readFrom(t *testing.T, d *Disk, n int) []byte {
	t.Helper()
	b, e := d.Read(n)
	if e != api.OK || len(b) != api.SectorBytes {
		t.Fatalf("Read(%d): %d bytes, %v", n, len(b), e)
	}
	return b
}

// expect holds all that a disk tells against what it should be.
func expect(t *testing.T, d *Disk, image []byte, writes []int) {
	t.Helper()
	sectors := len(image) / api.SectorBytes
	if d.Sectors() != sectors {
		t.Errorf("%d sectors, not %d", d.Sectors(), sectors)
	}
	if !bytes.Equal(d.Image(), image) {
		t.Error("another image")
	}
	for n := range sectors {
		if !bytes.Equal(readFrom(t, d, n), image[n*api.SectorBytes:(n+1)*api.SectorBytes]) {
			t.Errorf("sector %d has other bytes", n)
		}
	}
	if !slices.Equal(d.Writes(), writes) {
		t.Errorf("writes %v, not %v", d.Writes(), writes)
	}
}

func TestExamples(t *testing.T) { // the chapter's table
	if d, e := New(7); d != nil || e != api.ErrDiskSize {
		t.Error("New(7)", d, e)
	}
	fromImage(t, make([]byte, 8192))
	if d, e := From(make([]byte, 8191)); d != nil || e != api.ErrDiskSize {
		t.Error("From of 8191 bytes", d, e)
	}
	d := newDisk(t, 8)
	b := mixed(1)
	for _, x := range []struct {
		n    int
		b    []byte
		want api.Errno
	}{{3, b, api.OK}, {8, b, api.ErrDiskSector}, {3, b[:3], api.ErrDiskData}} {
		if e := d.Write(x.n, x.b); e != x.want {
			t.Errorf("Write(%d, %d bytes): %v", x.n, len(x.b), e)
		}
	}
	if !slices.Equal(d.Writes(), []int{3}) {
		t.Error(d.Writes())
	}
	if !bytes.Equal(readFrom(t, cutOf(t, d, 0), 3), filled(0)) {
		t.Error("Cut(0)")
	}
	if !bytes.Equal(readFrom(t, cutOf(t, d, 1), 3), b) {
		t.Error("Cut(1)")
	}
	if c, e := d.Cut(2); c != nil || e != api.ErrArg {
		t.Error("Cut(2)", c, e)
	}
}

func TestErrorsHaveTheirNumbers(t *testing.T) {
	for e, n := range map[api.Errno]int{
		api.ErrNil: 1, api.ErrArg: 2, api.ErrDiskSize: 30, api.ErrDiskSector: 31, api.ErrDiskData: 32, api.ErrDiskWorn: 33,
	} {
		if int(e) != n {
			t.Errorf("%d, not %d", int(e), n)
		}
	}
}

func TestNew(t *testing.T) { // P3.1
	for _, sectors := range []int{8, 9, 40, 1023, 1024} {
		expect(t, newDisk(t, sectors), make([]byte, sectors*1024), nil)
	}
	for _, sectors := range []int{math.MinInt, -1024, -8, -1, 0, 1, 7, 1025, 8192, math.MaxInt32, math.MaxInt} {
		if d, e := New(sectors); d != nil || e != api.ErrDiskSize {
			t.Errorf("New(%d): %v, %v", sectors, d, e)
		}
	}
}

func TestFrom(t *testing.T) { // P3.1
	for _, sectors := range []int{8, 9, 1024} {
		expect(t, fromImage(t, mixed(sectors)), mixed(sectors), nil)
		expect(t, fromImage(t, make([]byte, sectors*1024)), make([]byte, sectors*1024), nil)
	}
	for _, size := range []int{0, 1, 8, 1024, 7168, 8191, 8193, 9215, 9217, 1048575, 1048577, 1049600} {
		if d, e := From(make([]byte, size)); d != nil || e != api.ErrDiskSize {
			t.Errorf("From(%d bytes): %v, %v", size, d, e)
		}
	}
	if d, e := From(nil); d != nil || e != api.ErrDiskSize {
		t.Error("From(nil)", d, e)
	}
}

// outside are numbers of no sector of a disk that has so many.
func outside(sectors int) []int {
	return []int{math.MinInt, -sectors, -1, sectors, sectors + 1, 1024, math.MaxInt32, math.MaxInt}
}

func TestReadRefuses(t *testing.T) { // P3.2
	for _, sectors := range []int{8, 1023} {
		d := fromImage(t, mixed(sectors))
		for _, n := range outside(sectors) {
			if b, e := d.Read(n); len(b) != 0 || e != api.ErrDiskSector {
				t.Errorf("Read(%d): %d bytes, %v", n, len(b), e)
			}
		}
	}
}

func TestWriteLays(t *testing.T) { // P3.2
	image := mixed(9)
	d := fromImage(t, image)
	var writes []int
	for _, n := range []int{0, 8, 4, 4, 0, 2} {
		b := filled(byte(100 + len(writes)))
		writeTo(t, d, n, b)
		copy(image[n*1024:], b)
		writes = append(writes, n)
		expect(t, d, image, writes)
	}
}

func TestWriteKeepsEachByte(t *testing.T) { // P3.2: sectors that differ in one byte are not the same
	d := newDisk(t, 8)
	for i := range api.SectorBytes {
		b := make([]byte, api.SectorBytes)
		b[i] = 1
		writeTo(t, d, 5, b)
		if !bytes.Equal(readFrom(t, d, 5), b) {
			t.Fatalf("byte %d", i)
		}
	}
}

func TestWriteRefuses(t *testing.T) { // P3.2, and R2: nothing has changed
	image := mixed(8)
	d := fromImage(t, image)
	writeTo(t, d, 6, filled(9))
	copy(image[6*1024:], filled(9))
	wrong := [][]byte{nil, {}, {1}, filled(1)[:1023], append(filled(1), 1), append(filled(1), filled(1)...)}
	for _, b := range wrong {
		if e := d.Write(3, b); e != api.ErrDiskData {
			t.Errorf("Write(3, %d bytes): %v", len(b), e)
		}
	}
	for _, n := range outside(8) {
		for _, b := range append(wrong, filled(1)) { // the sector is asked for first
			if e := d.Write(n, b); e != api.ErrDiskSector {
				t.Errorf("Write(%d, %d bytes): %v", n, len(b), e)
			}
		}
	}
	expect(t, d, image, []int{6})
}

func TestWorn(t *testing.T) { // P3.2
	d := newDisk(t, 8)
	var writes []int
	for i := range 4096 {
		writeTo(t, d, i%8, filled(byte(i/8)))
		writes = append(writes, i%8)
	}
	image := bytes.Repeat(filled(255), 8)
	for n := range 8 {
		if e := d.Write(n, filled(7)); e != api.ErrDiskWorn {
			t.Errorf("Write(%d): %v", n, e)
		}
	}
	if e := d.Write(0, filled(255)); e != api.ErrDiskWorn { // what stands there already
		t.Error(e)
	}
	if e := d.Write(8, filled(7)); e != api.ErrDiskSector {
		t.Error(e)
	}
	if e := d.Write(0, nil); e != api.ErrDiskData {
		t.Error(e)
	}
	expect(t, d, image, writes)
	if c, e := d.Cut(4097); c != nil || e != api.ErrArg {
		t.Error("Cut(4097)", c, e)
	}
	c := cutOf(t, d, 4096)
	expect(t, c, image, nil)
	for range 4096 { // it has no writes: it bears as many as any
		writeTo(t, c, 1, filled(1))
	}
	if e := c.Write(1, filled(1)); e != api.ErrDiskWorn {
		t.Error(e)
	}
}

func TestWritesTellsEachOne(t *testing.T) { // P3.3: those too that lay what stands there
	d := newDisk(t, 8)
	same := []int{3, 3, 7, 3, 0, 7}
	for _, n := range same {
		writeTo(t, d, n, filled(0))
	}
	expect(t, d, make([]byte, 8192), same)
	for k := range len(same) + 1 {
		expect(t, cutOf(t, d, k), make([]byte, 8192), nil)
	}
}

func TestCutRefuses(t *testing.T) { // P3.3
	d := newDisk(t, 8)
	for range 3 {
		for _, k := range []int{math.MinInt, -2, -1, len(d.Writes()) + 1, 8, 4096, math.MaxInt} {
			if c, e := d.Cut(k); c != nil || e != api.ErrArg {
				t.Errorf("Cut(%d) of %d writes: %v, %v", k, len(d.Writes()), c, e)
			}
		}
		writeTo(t, d, 2, filled(1))
	}
}

func TestCutIsOfItsOwn(t *testing.T) { // P3.3: neither disk tells of what is written to the other one, nor to another cut
	made := mixed(8)
	d := fromImage(t, made)
	writeTo(t, d, 1, filled(50))
	writeTo(t, d, 5, filled(60))
	behind := d.Image()
	a, b, zero := cutOf(t, d, 2), cutOf(t, d, 2), cutOf(t, d, 0)
	for n := range 8 {
		writeTo(t, a, n, filled(70))
	}
	expect(t, d, behind, []int{1, 5})
	expect(t, b, behind, nil)
	expect(t, zero, made, nil)
	writeTo(t, d, 1, filled(80))
	expect(t, a, bytes.Repeat(filled(70), 8), []int{0, 1, 2, 3, 4, 5, 6, 7})
	expect(t, cutOf(t, a, 0), behind, nil) // its making
	expect(t, b, behind, nil)
	expect(t, cutOf(t, d, 2), behind, nil)
}

// grown is b with so much spare room behind it, all of one byte.
func grown(b []byte) []byte {
	out := append(slices.Clone(b), filled(200)...)
	return out[:len(b)]
}

func TestWhatIsHandedInIsNotKept(t *testing.T) { // P3.4, R3
	image := grown(mixed(8))
	d := fromImage(t, image)
	b := grown(filled(9))
	writeTo(t, d, 3, b)
	want := mixed(8)
	if !bytes.Equal(image, want) || !bytes.Equal(b, filled(9)) {
		t.Error("it was written into")
	}
	if !bytes.Equal(image[:cap(image)][8192:][:1024], filled(200)) || !bytes.Equal(b[:2048][1024:], filled(200)) {
		t.Error("its spare room was written into")
	}
	clear(image[:cap(image)])
	clear(b[:cap(b)])
	expect(t, cutOf(t, d, 0), want, nil)
	copy(want[3*1024:], filled(9))
	expect(t, d, want, []int{3})
	expect(t, cutOf(t, d, 1), want, nil)
}

func TestWhatIsAnsweredIsNew(t *testing.T) { // P3.4, R3: spare room too
	d := fromImage(t, mixed(8))
	writeTo(t, d, 3, filled(9))
	writeTo(t, d, 3, filled(9)) // as it stands there
	writeTo(t, d, 2, filled(0))
	want := mixed(8)
	copy(want[3*1024:], filled(9))
	for range 2 {
		for _, c := range []*Disk{d, cutOf(t, d, 3), cutOf(t, d, 0)} {
			image := c.Image()
			clear(image[:cap(image)])
			for n := range 8 {
				b := readFrom(t, c, n)
				b = b[:cap(b)]
				for i := range b {
					b[i] = 77
				}
			}
			l := c.Writes()
			clear(l[:cap(l)])
		}
	}
	expect(t, d, want, []int{3, 3, 2})
	expect(t, cutOf(t, d, 3), want, nil)
	expect(t, cutOf(t, d, 0), mixed(8), nil)
	expect(t, newDisk(t, 8), make([]byte, 8192), nil)
}

// expectNothing asks a disk that has no sectors all that one can be asked.
func expectNothing(t *testing.T, d *Disk, read, write api.Errno) {
	t.Helper()
	for _, n := range []int{math.MinInt, -1, 0, 1, math.MaxInt} {
		if b, e := d.Read(n); len(b) != 0 || e != read {
			t.Errorf("Read(%d): %d bytes, %v", n, len(b), e)
		}
		for _, b := range [][]byte{nil, filled(1)} {
			if e := d.Write(n, b); e != write {
				t.Errorf("Write(%d): %v", n, e)
			}
		}
	}
	if d.Sectors() != 0 || len(d.Writes()) != 0 || len(d.Image()) != 0 {
		t.Error("it has something")
	}
}

func TestNilDisk(t *testing.T) { // P3.4, R4
	expectNothing(t, nil, api.ErrNil, api.ErrNil)
	for _, k := range []int{math.MinInt, -1, 0, 1, math.MaxInt} {
		if c, e := (*Disk)(nil).Cut(k); c != nil || e != api.ErrNil {
			t.Errorf("Cut(%d): %v, %v", k, c, e)
		}
	}
}

func TestDiskThatNoCallGave(t *testing.T) { // R1: no call panics
	d := &Disk{}
	expectNothing(t, d, api.ErrDiskSector, api.ErrDiskSector)
	expectNothing(t, cutOf(t, d, 0), api.ErrDiskSector, api.ErrDiskSector)
	if c, e := d.Cut(1); c != nil || e != api.ErrArg {
		t.Error(c, e)
	}
}

// someWrites does so many to a disk, and keeps its image behind each of them as plain bytes.
func someWrites(t *testing.T, d *Disk, many int, chance *rand.Rand) ([][]byte, []int) {
	t.Helper()
	image := slices.Clone(d.Image())
	images, writes := [][]byte{slices.Clone(image)}, []int(nil)
	for range many {
		n := chance.Intn(d.Sectors())
		b := filled(byte(chance.Intn(3))) // few enough that much is written as it stood
		b[chance.Intn(len(b))] = byte(chance.Intn(2))
		writeTo(t, d, n, b)
		copy(image[n*1024:], b)
		images, writes = append(images, slices.Clone(image)), append(writes, n)
	}
	return images, writes
}

func TestWhatFollows(t *testing.T) { // P3.5
	for seed := range int64(6) {
		chance := rand.New(rand.NewSource(seed))
		d := newDisk(t, 8+int(seed))
		if seed%2 == 1 {
			d = fromImage(t, mixed(8+int(seed)))
		}
		images, writes := someWrites(t, d, 120, chance)
		expect(t, d, images[len(writes)], writes)
		for k := range images {
			expect(t, cutOf(t, d, k), images[k], nil)
		}
		if !bytes.Equal(cutOf(t, d, len(writes)).Image(), d.Image()) {
			t.Error("Cut of all writes has another image")
		}
		for k, n := range writes {
			ahead, behind := cutOf(t, d, k), cutOf(t, d, k+1)
			writeTo(t, ahead, n, readFrom(t, behind, n))
			if !bytes.Equal(ahead.Image(), behind.Image()) {
				t.Errorf("Cut(%d) and Cut(%d) differ elsewhere than in sector %d", k, k+1, n)
			}
		}
	}
}

func TestCutsOfCuts(t *testing.T) { // P3.3: a cut disk has a row of its own
	chance := rand.New(rand.NewSource(1))
	d := newDisk(t, 8)
	images, writes := someWrites(t, d, 20, chance)
	for k := range images {
		c := cutOf(t, d, k)
		more, row := someWrites(t, c, 10, chance)
		expect(t, c, more[10], row)
		for j := range more {
			expect(t, cutOf(t, c, j), more[j], nil)
		}
	}
	expect(t, d, images[20], writes)
}
