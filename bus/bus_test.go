package bus

import (
	"bytes"
	"math"
	"math/rand"
	"slices"
	"strings"
	"testing"

	"carrel/api"
	"carrel/disk"
)

// The edges of memory and of the devices' words.
const (
	memEnd   uint32 = 0x100000
	firstDev uint32 = 0xFFFFFFC0
	lastDev  uint32 = 0xFFFFFFD8
)

func newDisk(t *testing.T, sectors int) *disk.Disk {
	t.Helper()
	d, e := disk.New(sectors)
	if e != api.OK || d == nil {
		t.Fatalf("a disk of %d sectors: %v", sectors, e)
	}
	return d
}

// newBus has these words, over a disk of 8 sectors.
func newBus(t *testing.T, words ...uint32) *Bus {
	t.Helper()
	return busOver(t, newDisk(t, 8), words...)
}

func busOver(t *testing.T, d *disk.Disk, words ...uint32) *Bus {
	t.Helper()
	b, e := New(words, d)
	if e != api.OK || b == nil {
		t.Fatalf("New: %v, %v", b, e)
	}
	return b
}

// do does an access, and asks for what it answers.
func do(t *testing.T, b *Bus, kind int, addr, value, want uint32, how int) {
	t.Helper()
	got, end := b.Do(api.Access{Kind: kind, Addr: addr, Value: value})
	if got != want || end != how {
		t.Errorf("kind %d at %x of %x: %x, %d; not %x, %d", kind, addr, value, got, end, want, how)
	}
}

// loads: a word at an address is this one.
func loads(t *testing.T, b *Bus, addr, want uint32) {
	t.Helper()
	do(t, b, api.LoadWord, addr, 0, want, api.Fine)
}

// stores lays a word at an address that takes it.
func stores(t *testing.T, b *Bus, addr, w uint32) {
	t.Helper()
	do(t, b, api.StoreWord, addr, w, 0, api.Fine)
}

// commands stores what a command needs, and the command, and asks whether it was done.
func commands(t *testing.T, b *Bus, command, sector, addr, want uint32) {
	t.Helper()
	stores(t, b, api.IOSector, sector)
	stores(t, b, api.IOAddress, addr)
	stores(t, b, api.IOCommand, command)
	loads(t, b, api.IOCommand, want)
	loads(t, b, api.IOSector, sector)
	loads(t, b, api.IOAddress, addr)
}

// state is all that a bus tells without changing it.
type state struct {
	memory, image []byte
	writes        []int
	out           string
	waiting       int
	words         [6]uint32
}

func stateOf(b *Bus) state {
	s := state{
		memory: bytes.Clone(b.memory), image: b.Disk().Image(), writes: b.Disk().Writes(),
		out: b.Out(), waiting: b.Waiting(),
	}
	for i, addr := range []uint32{api.IOTimer, api.IOStatus, api.IOSector, api.IOAddress, api.IOCommand, api.IOSectors} {
		s.words[i], _ = b.Do(api.Access{Kind: api.LoadWord, Addr: addr})
	}
	return s
}

func same(a, b state) bool {
	return bytes.Equal(a.memory, b.memory) && bytes.Equal(a.image, b.image) && slices.Equal(a.writes, b.writes) &&
		a.out == b.out && a.waiting == b.waiting && a.words == b.words
}

// busy is a bus on which something of everything has happened.
func busy(t *testing.T) *Bus {
	t.Helper()
	b := newBus(t, 1, 2, 3)
	stores(t, b, 0x400, 0x04030201)
	commands(t, b, 2, 5, 0x400, 0)
	stores(t, b, api.IOData, 'o')
	if e := b.Feed("in"); e != api.OK {
		t.Fatal(e)
	}
	b.Tick(9)
	return b
}

func TestExamples(t *testing.T) { // the chapter's table
	b := newBus(t, 1, 0x0102)
	loads(t, b, 4, 258)
	do(t, b, api.LoadByte, 4, 0, 2, api.Fine)
	do(t, b, api.LoadByte, 5, 0, 1, api.Fine)
	for _, addr := range []uint32{2, 0x100000, 0xffffffbc} {
		do(t, b, api.LoadWord, addr, 0, 0, api.BadAddress)
	}
	do(t, b, api.LoadByte, 0xffffffc0, 0, 0, api.BadAddress)

	do(t, b, api.StoreByte, 7, 0x1ff, 0, api.Fine)
	loads(t, b, 4, 0xff000102)

	do(t, b, api.LoadWord, 0xffffffc4, 0, 0, api.MustWait)
	if e := b.Feed("ab"); e != api.OK {
		t.Error(e)
	}
	for _, x := range [][2]uint32{{0xffffffc8, 3}, {0xffffffc4, 97}, {0xffffffc4, 98}, {0xffffffc8, 2}} {
		loads(t, b, x[0], x[1])
	}

	stores(t, b, 0xffffffc4, 0x141)
	if b.Out() != "A" {
		t.Errorf("%q", b.Out())
	}

	for addr := uint32(0x400); addr < 0x800; addr += 4 {
		b.Poke(addr, addr*0x01010101)
	}
	stores(t, b, 0xffffffcc, 3)
	stores(t, b, 0xffffffd0, 0x400)
	stores(t, b, 0xffffffd4, 2)
	loads(t, b, 0xffffffd4, 0)
	if s, e := b.Disk().Read(3); e != api.OK || !bytes.Equal(s, b.memory[0x400:0x800]) {
		t.Error("sector 3", e)
	}

	stores(t, b, 0xffffffcc, 8)
	stores(t, b, 0xffffffd4, 1)
	loads(t, b, 0xffffffd4, 1)

	for _, addr := range []uint32{0xffffffc0, 0xffffffc8, 0xffffffd8} {
		do(t, b, api.StoreWord, addr, 1, 0, api.BadAddress)
	}
	loads(t, b, 0xffffffd8, 8)
}

func TestNumbers(t *testing.T) { // of errors, and of how accesses end
	for e, n := range map[api.Errno]int{api.ErrNil: 1, api.ErrArg: 2, api.ErrBusFull: 40} {
		if int(e) != n {
			t.Errorf("%d, not %d", int(e), n)
		}
	}
	if api.Fine != 0 || api.BadAddress != 1 || api.MustWait != 2 {
		t.Error("ends of accesses")
	}
}

func TestNew(t *testing.T) { // P4.1
	for _, n := range []int{0, 1, 2, 262143, 262144} {
		words := make([]uint32, n)
		for i := range words {
			words[i] = uint32(i)*0x9E3779B1 + 1
		}
		b := newBus(t, words...)
		if len(b.memory) != 1<<20 {
			t.Fatalf("%d bytes of memory", len(b.memory))
		}
		for addr := uint32(0); addr < memEnd; addr += 4 {
			want := uint32(0)
			if int(addr/4) < n {
				want = words[addr/4]
			}
			if w, ok := b.Word(addr); w != want || !ok {
				t.Fatalf("%d words: at %x %x, not %x", n, addr, w, want)
			}
		}
	}
	b := busOver(t, newDisk(t, 1024))
	if b.Waiting() != 0 || b.Out() != "" || len(b.Disk().Writes()) != 0 {
		t.Error("a new bus", b.Waiting(), b.Out())
	}
	for addr, want := range map[uint32]uint32{api.IOTimer: 0, api.IOStatus: 2, api.IOSector: 0, api.IOAddress: 0, api.IOCommand: 0, api.IOSectors: 1024} {
		loads(t, b, addr, want)
	}
}

func TestNewRefuses(t *testing.T) { // P4.1: ErrNil comes first
	d := newDisk(t, 8)
	for _, x := range []struct {
		words int
		d     *disk.Disk
		want  api.Errno
	}{{0, nil, api.ErrNil}, {1, nil, api.ErrNil}, {262145, nil, api.ErrNil}, {262145, d, api.ErrArg}, {1 << 20, d, api.ErrArg}} {
		if b, e := New(make([]uint32, x.words), x.d); b != nil || e != x.want {
			t.Errorf("New(%d words): %v, %v", x.words, b != nil, e)
		}
	}
	if len(d.Writes()) != 0 {
		t.Error("the disk was written")
	}
}

func TestWordsAreNotKept(t *testing.T) { // R3
	words := make([]uint32, 2, 8)
	words[0], words[1] = 7, 8
	spare := words[:8]
	b := newBus(t, words...)
	stores(t, b, 0, 70)
	stores(t, b, 8, 90)
	if !slices.Equal(spare, []uint32{7, 8, 0, 0, 0, 0, 0, 0}) {
		t.Error("the words were written into", spare)
	}
	words[1] = 80
	loads(t, b, 4, 8)
	if b, e := New(nil, newDisk(t, 8)); e != api.OK || b.memory[0] != 0 {
		t.Error("nil words", e)
	}
}

func TestMemoryIsOfBytes(t *testing.T) { // P4.2, 'What follows': a word is its four bytes, the lowest first
	for _, at := range []uint32{0, 4, 0x7fffc, 0xffff8, 0xffffc} {
		b := newBus(t)
		do(t, b, api.StoreWord, at, 0xA1B2C3D4, 0, api.Fine)
		loads(t, b, at, 0xA1B2C3D4)
		for i, want := range []uint32{0xD4, 0xC3, 0xB2, 0xA1} {
			do(t, b, api.LoadByte, at+uint32(i), 0, want, api.Fine)
		}
		for i, x := range []uint32{0xFFFFFF01, 0x102, 0x80000003, 4} {
			do(t, b, api.StoreByte, at+uint32(i), x, 0, api.Fine)
		}
		loads(t, b, at, 0x04030201)
		if n := len(bytes.ReplaceAll(b.memory, []byte{0}, nil)); n != 4 {
			t.Errorf("at %x: %d bytes were laid", at, n)
		}
	}
}

func TestBadAccesses(t *testing.T) { // P4.2: bad ones, which change nothing
	b := busy(t)
	ahead := stateOf(b)
	bad := func(kind int, addr uint32) {
		t.Helper()
		do(t, b, kind, addr, 0xABCDEF01, 0, api.BadAddress)
	}
	outside := []uint32{memEnd, memEnd + 4, 0x1FFFFC, 0x7FFFFFFC, 0x80000000, firstDev - 4, lastDev + 4, 0xFFFFFFFC, 0xFFFFFFE0}
	for _, addr := range outside {
		for kind := api.LoadWord; kind <= api.StoreByte; kind++ {
			bad(kind, addr)
		}
	}
	for _, addr := range []uint32{1, 2, 3, 0xFFFFD, 0xFFFFE, 0xFFFFF, memEnd + 1, math.MaxUint32, math.MaxUint32 - 1} {
		bad(api.LoadWord, addr)
		bad(api.StoreWord, addr)
	}
	for addr := firstDev - 8; addr != 0; addr++ {
		bad(api.LoadByte, addr)
		bad(api.StoreByte, addr)
		if addr%4 != 0 {
			bad(api.LoadWord, addr)
			bad(api.StoreWord, addr)
		}
	}
	for _, addr := range []uint32{api.IOTimer, api.IOStatus, api.IOSectors} {
		bad(api.StoreWord, addr)
	}
	if !same(ahead, stateOf(b)) {
		t.Error("a bad access has changed something")
	}
}

func TestKinds(t *testing.T) { // P4.2: NoAccess, and kinds that are none
	b := busy(t)
	ahead := stateOf(b)
	for _, addr := range []uint32{0, 3, memEnd, api.IOData, api.IOCommand, math.MaxUint32} {
		do(t, b, api.NoAccess, addr, 1, 0, api.Fine)
		for _, kind := range []int{math.MinInt, -1, 5, 6, 1 << 32, 1<<32 + 3, math.MaxInt} {
			do(t, b, kind, addr, 1, 0, api.BadAddress)
		}
	}
	if !same(ahead, stateOf(b)) {
		t.Error("something has changed")
	}
}

func TestWaits(t *testing.T) { // P4.2: nothing changes while none waits
	b := busy(t)
	loads(t, b, api.IOData, 'i')
	loads(t, b, api.IOData, 'n')
	ahead := stateOf(b)
	for range 3 {
		do(t, b, api.LoadWord, api.IOData, 5, 0, api.MustWait)
	}
	if !same(ahead, stateOf(b)) {
		t.Error("waiting has changed something")
	}
}

func TestPutOut(t *testing.T) { // P4.3, P4.4: Out
	b := newBus(t)
	var want []byte
	for i := range 300 {
		stores(t, b, api.IOData, uint32(i)*0x01010101)
		want = append(want, byte(i))
	}
	if b.Out() != string(want) || b.Out() != string(want) {
		t.Error("other bytes")
	}
	kept := b.Out()
	for len(want) < 65536 {
		stores(t, b, api.IOData, 'z')
		want = append(want, 'z')
	}
	if b.Out() != string(want) {
		t.Error("other bytes up to the last")
	}
	for range 3 { // lost, and fine all the same
		stores(t, b, api.IOData, '!')
	}
	if b.Out() != string(want) {
		t.Errorf("%d bytes put out", len(b.Out()))
	}
	if kept != string(want[:300]) {
		t.Error("an answer has changed")
	}
	if b.Waiting() != 0 {
		t.Error("what is put out does not wait")
	}
}

func TestThreeWords(t *testing.T) { // P4.3, DOC.md: what was stored last, any word
	b := newBus(t)
	for _, w := range []uint32{1, 0, 7, 1 << 31, math.MaxUint32} {
		stores(t, b, api.IOSector, w)
		loads(t, b, api.IOSector, w)
		stores(t, b, api.IOAddress, ^w)
		loads(t, b, api.IOAddress, ^w)
		loads(t, b, api.IOSector, w)
		loads(t, b, api.IOCommand, 0)
	}
}

func TestReadsSectors(t *testing.T) { // P4.3: command 1
	d := newDisk(t, 9)
	data := make([]byte, 1024)
	for i := range data {
		data[i] = byte(i*5 + i/256 + 1)
	}
	for _, n := range []int{0, 4, 8} {
		data[0] = byte(100 + n)
		if e := d.Write(n, data); e != api.OK {
			t.Fatal(e)
		}
	}
	for _, n := range []uint32{0, 4, 8} {
		for _, at := range []uint32{0, 4, 0x3FC, 0x80000, 0xFFBFC, 0xFFC00} {
			b := busOver(t, d)
			want := bytes.Repeat([]byte{0x55}, 1<<20)
			copy(b.memory, want)
			commands(t, b, 1, n, at, 0)
			data[0] = byte(100 + n)
			copy(want[at:], data)
			if !bytes.Equal(b.memory, want) {
				t.Errorf("sector %d at %x: other memory", n, at)
			}
		}
	}
	if !slices.Equal(d.Writes(), []int{0, 4, 8}) {
		t.Error("reading has written", d.Writes())
	}
}

func TestWritesSectors(t *testing.T) { // P4.3: command 2
	words := make([]uint32, 1<<18)
	for i := range words {
		words[i] = uint32(i)*0x9E3779B1 + 3
	}
	for _, n := range []uint32{0, 4, 8} {
		for _, at := range []uint32{0, 4, 0x3FC, 0x80000, 0xFFBFC, 0xFFC00} {
			d := newDisk(t, 9)
			b := busOver(t, d, words...)
			ahead := bytes.Clone(b.memory)
			commands(t, b, 2, n, at, 0)
			want := make([]byte, 9*1024)
			copy(want[n*1024:], ahead[at:at+1024])
			if !bytes.Equal(d.Image(), want) || !slices.Equal(d.Writes(), []int{int(n)}) {
				t.Errorf("sector %d from %x: other sectors, or writes %v", n, at, d.Writes())
			}
			if !bytes.Equal(b.memory, ahead) {
				t.Error("writing has changed the memory")
			}
			stores(t, b, at, 0x12345678)
			if !bytes.Equal(d.Image(), want) {
				t.Error("the disk keeps the memory itself")
			}
		}
	}
}

func TestReadBackElsewhere(t *testing.T) { // 'What follows'
	b := newBus(t)
	rng := rand.New(rand.NewSource(4))
	for range 50 {
		from, to := uint32(rng.Intn(256))*4096, uint32(rng.Intn(256))*4096+2048
		rng.Read(b.memory[from:][:1024])
		sector := uint32(rng.Intn(8))
		commands(t, b, 2, sector, from, 0)
		commands(t, b, 1, sector, to, 0)
		if !bytes.Equal(b.memory[from:][:1024], b.memory[to:][:1024]) {
			t.Fatalf("sector %d from %x to %x", sector, from, to)
		}
	}
}

func TestCommandsThatAreNotDone(t *testing.T) { // P4.3: IOCommand is 1 behind them, and they change nothing else
	wrong := []struct{ command, sector, addr uint32 }{
		{1, 8, 0x800}, {2, 8, 0x800}, {1, 9, 0}, {2, 1 << 31, 0}, {1, math.MaxUint32, 0}, {2, math.MaxUint32, 0}, {1, 1 << 16, 0},
		{1, 5, 1}, {2, 5, 2}, {1, 5, 3}, {2, 5, 0xFFBFE}, {2, 5, 0x401},
		{1, 5, 0xFFC04}, {2, 5, 0xFFC04}, {1, 5, 0xFFFFC}, {2, 5, memEnd}, {1, 5, memEnd}, {1, 5, 0xFFFFFC00}, {2, 5, 0xFFFFFFFC}, {1, 5, 0x80000000},
		{0, 5, 0x800}, {3, 5, 0x800}, {4, 5, 0x800}, {0x101, 5, 0x800}, {0x102, 5, 0x800}, {1<<31 + 1, 5, 0x800}, {math.MaxUint32, 5, 0x800},
	}
	for _, x := range wrong {
		b := busy(t)
		b.Poke(0x800, 0xCCCCCCCC)
		stores(t, b, api.IOSector, x.sector)
		stores(t, b, api.IOAddress, x.addr)
		want := stateOf(b)
		want.words[4] = 1
		stores(t, b, api.IOCommand, x.command)
		if !same(want, stateOf(b)) {
			t.Errorf("%v: something else has changed, or IOCommand has not", x)
		}
		commands(t, b, 1, 5, 0x800, 0) // one that is done tells so again
		loads(t, b, 0x800, 0x04030201)
	}
}

func TestDiskThatRefuses(t *testing.T) { // P4.3: a worn disk
	d := newDisk(t, 8)
	b := busOver(t, d)
	for range api.MaxWrites {
		if e := d.Write(1, make([]byte, 1024)); e != api.OK {
			t.Fatal(e)
		}
	}
	b.Poke(0, 5)
	commands(t, b, 2, 1, 0, 1)
	commands(t, b, 1, 1, 0, 0)
	loads(t, b, 0, 0)
	if len(d.Writes()) != api.MaxWrites {
		t.Error(len(d.Writes()))
	}
}

func TestFeed(t *testing.T) { // P4.4; 'What follows': in order, each once
	b := newBus(t)
	all := make([]byte, 256)
	for i := range all {
		all[i] = byte(255 - i)
	}
	var want []byte
	for i, s := range []string{"", "a", string(all), "", "\x00\xff", "end"} {
		if e := b.Feed(s); e != api.OK {
			t.Fatal(e)
		}
		want = append(want, s...)
		if i == 2 { // taken in between: those fed later stand behind what is left
			for range 100 {
				loads(t, b, api.IOStatus, 3)
				loads(t, b, api.IOData, uint32(want[0]))
				want = want[1:]
			}
		}
		if b.Waiting() != len(want) {
			t.Errorf("%d wait, not %d", b.Waiting(), len(want))
		}
	}
	for i, x := range want {
		loads(t, b, api.IOStatus, 3)
		loads(t, b, api.IOData, uint32(x))
		if b.Waiting() != len(want)-1-i {
			t.Errorf("%d wait", b.Waiting())
		}
	}
	loads(t, b, api.IOStatus, 2)
	do(t, b, api.LoadWord, api.IOData, 0, 0, api.MustWait)
	if b.Out() != "" {
		t.Error("input was put out")
	}
}

func TestFull(t *testing.T) { // P4.4: 65536 bytes wait at most
	b := newBus(t)
	feed := func(n int, want api.Errno, waiting int) {
		t.Helper()
		if e := b.Feed(strings.Repeat("x", n)); e != want || b.Waiting() != waiting {
			t.Errorf("%d bytes more: %v, %d wait", n, e, b.Waiting())
		}
	}
	feed(65537, api.ErrBusFull, 0)
	loads(t, b, api.IOStatus, 2)
	feed(1<<20, api.ErrBusFull, 0)
	feed(65535, api.OK, 65535)
	feed(2, api.ErrBusFull, 65535)
	feed(1, api.OK, 65536)
	feed(1, api.ErrBusFull, 65536)
	feed(0, api.OK, 65536)
	loads(t, b, api.IOData, 'x')
	feed(2, api.ErrBusFull, 65535)
	feed(1, api.OK, 65536)
	for range 65536 { // what was taken counts no more
		loads(t, b, api.IOData, 'x')
	}
	feed(65537, api.ErrBusFull, 0)
	feed(65536, api.OK, 65536)
}

func TestTick(t *testing.T) { // P4.3, P4.4: modulo 2^32
	b := newBus(t)
	for _, x := range [][2]uint32{{0, 0}, {1, 1}, {5, 6}, {1 << 31, 1<<31 + 6}, {1<<31 - 7, math.MaxUint32}, {0, math.MaxUint32}, {1, 0}, {math.MaxUint32, math.MaxUint32}, {math.MaxUint32, math.MaxUint32 - 1}} {
		b.Tick(x[0])
		loads(t, b, api.IOTimer, x[1])
		loads(t, b, api.IOTimer, x[1])
	}
}

func TestSectors(t *testing.T) { // P4.3
	for _, n := range []int{8, 9, 300, 1024} {
		loads(t, busOver(t, newDisk(t, n)), api.IOSectors, uint32(n))
	}
}

func TestWordAndPoke(t *testing.T) { // P4.5
	b := busy(t)
	for _, addr := range []uint32{0, 4, 0x800, 0xFFFF8, 0xFFFFC} {
		if !b.Poke(addr, addr^0xFEDCBA98) {
			t.Errorf("Poke at %x", addr)
		}
		if w, ok := b.Word(addr); w != addr^0xFEDCBA98 || !ok {
			t.Errorf("Word at %x: %x, %v", addr, w, ok)
		}
		loads(t, b, addr, addr^0xFEDCBA98)
		stores(t, b, addr, 0x04030201)
		if w, ok := b.Word(addr); w != 0x04030201 || !ok {
			t.Errorf("Word at %x: %x, %v", addr, w, ok)
		}
	}
	ahead := stateOf(b)
	for _, addr := range []uint32{1, 2, 3, 0xFFFFD, 0xFFFFE, 0xFFFFF, memEnd, memEnd + 4, 1 << 31, api.IOTimer, api.IOData, api.IOSector, api.IOCommand, api.IOSectors, math.MaxUint32} {
		if w, ok := b.Word(addr); w != 0 || ok {
			t.Errorf("Word at %x: %x, %v", addr, w, ok)
		}
		if b.Poke(addr, 1) {
			t.Errorf("Poke at %x", addr)
		}
	}
	if !same(ahead, stateOf(b)) {
		t.Error("something has changed")
	}
}

func TestDiskIsTheOneHandedIn(t *testing.T) { // P4.5; R3: it is worked on
	d := newDisk(t, 8)
	b, other := busOver(t, d, 5), busOver(t, d)
	if b.Disk() != d || other.Disk() != d {
		t.Fatal("another disk")
	}
	commands(t, b, 2, 7, 0, 0)
	commands(t, other, 1, 7, 0x1000, 0)
	loads(t, other, 0x1000, 5)
	loads(t, other, 0, 0)
	loads(t, b, 0x1000, 0)
}

func TestBusesStandAlone(t *testing.T) { // R4: what a bus answers hangs on calls on it alone
	b, other := busy(t), newBus(t)
	ahead := stateOf(other)
	b.Tick(3)
	stores(t, b, api.IOData, 'x')
	stores(t, b, 0, 9)
	commands(t, b, 3, 4, 5, 1)
	if e := b.Feed("more"); e != api.OK {
		t.Error(e)
	}
	if !same(ahead, stateOf(other)) {
		t.Error("another bus has changed")
	}
}

func TestNilBus(t *testing.T) { // P4.6
	var b *Bus
	for kind := -1; kind <= 6; kind++ {
		for _, addr := range []uint32{0, 3, memEnd, api.IOTimer, api.IOData, api.IOCommand} {
			do(t, b, kind, addr, 2, 0, api.BadAddress)
		}
	}
	for _, s := range []string{"", "a", strings.Repeat("x", 65537)} {
		if e := b.Feed(s); e != api.ErrNil {
			t.Error("Feed", e)
		}
	}
	b.Tick(1)
	if b.Waiting() != 0 || b.Out() != "" || b.Disk() != nil || b.Poke(0, 1) || b.Poke(1, 1) {
		t.Error("a nil bus has something")
	}
	for _, addr := range []uint32{0, 1, memEnd} {
		if w, ok := b.Word(addr); w != 0 || ok {
			t.Error("Word", w, ok)
		}
	}
}

func TestStructsThatNoCallGave(t *testing.T) { // R1: nothing panics
	b := new(Bus)
	for kind := -1; kind <= 6; kind++ {
		for _, addr := range []uint32{0, 3, 4, 0xFFFFC, memEnd, api.IOTimer, api.IOData, api.IOStatus, api.IOSector, api.IOAddress, api.IOCommand, api.IOSectors, math.MaxUint32} {
			for value := range uint32(3) {
				b.Do(api.Access{Kind: kind, Addr: addr, Value: value})
			}
		}
	}
	b.Tick(1)
	if b.Poke(0, 1) || b.Disk() != nil || b.Out() != "" || b.Feed("a") != api.OK || b.Waiting() != 1 {
		t.Error("a bus that is empty")
	}
	if w, ok := b.Word(0); w != 0 || ok {
		t.Error(w, ok)
	}
	over := busOver(t, new(disk.Disk))
	loads(t, over, api.IOSectors, 0)
	commands(t, over, 1, 0, 0, 1)
	commands(t, over, 2, 0, 0, 1)
}

// plain tells what a bus is by DOC.md's words, with a map of bytes for its memory and one of bytes for each sector.
type plain struct {
	memory                          map[uint32]byte
	sectors                         []map[uint32]byte
	writes                          int
	in, out                         string
	ticks, sector, address, command uint32
}

func (p *plain) load(addr uint32) (uint32, int) {
	switch addr {
	case 0xFFFFFFC0:
		return p.ticks, api.Fine
	case 0xFFFFFFC4:
		if p.in == "" {
			return 0, api.MustWait
		}
		x := p.in[0]
		p.in = p.in[1:]
		return uint32(x), api.Fine
	case 0xFFFFFFC8:
		return uint32(2 + min(1, len(p.in))), api.Fine
	case 0xFFFFFFCC:
		return p.sector, api.Fine
	case 0xFFFFFFD0:
		return p.address, api.Fine
	case 0xFFFFFFD4:
		return p.command, api.Fine
	case 0xFFFFFFD8:
		return uint32(len(p.sectors)), api.Fine
	}
	if addr%4 != 0 || addr >= memEnd {
		return 0, api.BadAddress
	}
	w := uint32(0)
	for i := range uint32(4) {
		w += uint32(p.memory[addr+i]) << (8 * i)
	}
	return w, api.Fine
}

func (p *plain) store(addr, w uint32) int {
	switch addr {
	case 0xFFFFFFC4:
		p.out += string([]byte{byte(w)})
		return api.Fine
	case 0xFFFFFFCC:
		p.sector = w
		return api.Fine
	case 0xFFFFFFD0:
		p.address = w
		return api.Fine
	case 0xFFFFFFD4:
		p.obey(w)
		return api.Fine
	}
	if addr%4 != 0 || addr >= memEnd {
		return api.BadAddress
	}
	for i := range uint32(4) {
		p.memory[addr+i] = byte(w >> (8 * i))
	}
	return api.Fine
}

func (p *plain) obey(command uint32) {
	p.command = 1
	if p.sector >= uint32(len(p.sectors)) || p.address%4 != 0 || p.address+1024 > memEnd || p.address > memEnd {
		return
	}
	for i := range uint32(1024) {
		switch command {
		case 1:
			p.memory[p.address+i] = p.sectors[p.sector][i]
		case 2:
			p.sectors[p.sector][i] = p.memory[p.address+i]
		}
	}
	if command == 2 {
		p.writes++
	}
	if command == 1 || command == 2 {
		p.command = 0
	}
}

func (p *plain) do(a api.Access) (uint32, int) {
	if a.Kind == api.LoadWord {
		return p.load(a.Addr)
	}
	if a.Kind == api.StoreWord {
		return 0, p.store(a.Addr, a.Value)
	}
	if a.Addr >= memEnd {
		return 0, api.BadAddress
	}
	if a.Kind == api.LoadByte {
		return uint32(p.memory[a.Addr]), api.Fine
	}
	p.memory[a.Addr] = byte(a.Value)
	return 0, api.Fine
}

// randomAddr is one of few, so that what is stored is met again.
func randomAddr(rng *rand.Rand) uint32 {
	switch rng.Intn(4) {
	case 0:
		return uint32(rng.Intn(4096))
	case 1:
		return memEnd - 64 + uint32(rng.Intn(80))
	case 2:
		return uint32(rng.Intn(1024)) * 4
	}
	return firstDev - 4 + uint32(rng.Intn(9))*4
}

func randomValue(rng *rand.Rand) uint32 {
	switch rng.Intn(4) {
	case 0:
		return uint32(rng.Intn(10))
	case 1:
		return uint32(rng.Intn(8)) * 256
	case 2:
		return memEnd - 1024 + uint32(rng.Intn(3))*4 - 4
	}
	return rng.Uint32()
}

func TestAgainstPlainWords(t *testing.T) { // P4.2 to P4.4: rows of calls
	for seed := range int64(40) {
		rng := rand.New(rand.NewSource(seed))
		b := newBus(t)
		p := &plain{memory: map[uint32]byte{}}
		for range 8 {
			p.sectors = append(p.sectors, map[uint32]byte{})
		}
		for step := range 3000 {
			switch rng.Intn(20) {
			case 0:
				s := string(rune('a' + rng.Intn(26)))
				p.in += s
				b.Feed(s)
			case 1:
				n := rng.Uint32()
				p.ticks += n
				b.Tick(n)
			default:
				a := api.Access{Kind: 1 + rng.Intn(4), Addr: randomAddr(rng), Value: randomValue(rng)}
				got, end := b.Do(a)
				if want, how := p.do(a); got != want || end != how {
					t.Fatalf("seed %d, step %d, %+v: %x, %d; not %x, %d", seed, step, a, got, end, want, how)
				}
			}
			if b.Out() != p.out || b.Waiting() != len(p.in) || len(b.Disk().Writes()) != p.writes {
				t.Fatalf("seed %d, step %d", seed, step)
			}
		}
		for n, want := range p.sectors {
			s, _ := b.Disk().Read(n)
			for i, x := range s {
				if x != want[uint32(i)] {
					t.Fatalf("seed %d: sector %d differs at %d", seed, n, i)
				}
			}
		}
		want := make([]byte, memEnd)
		for at, x := range p.memory {
			want[at] = x
		}
		if !bytes.Equal(b.memory, want) {
			t.Fatalf("seed %d: other memory", seed)
		}
	}
}
