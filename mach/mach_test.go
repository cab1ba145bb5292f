package mach

import (
	"math"
	"math/rand"
	"slices"
	"strings"
	"testing"

	"carrel/api"
	"carrel/bus"
	"carrel/cpu"
	"carrel/disk"
)

// Words of the chapter's examples.
const (
	mov7    uint32 = 0x40000007 // MOV R0, 7
	illegal uint32 = 0x4F0F0000
	halt    uint32 = 0x400F0000 // TRAP 0
	trap9   uint32 = 0x400F0009
	loop    uint32 = 0xE7FFFFFF // a jump to itself
)

const (
	memEnd   uint32 = 0x100000
	memWords        = 262144
)

func newDisk(t *testing.T, sectors int) *disk.Disk {
	t.Helper()
	d, e := disk.New(sectors)
	if e != api.OK || d == nil {
		t.Fatalf("a disk of %d sectors: %v", sectors, e)
	}
	return d
}

// over has an image over a disk.
func over(t *testing.T, i api.Image, d *disk.Disk) *Machine {
	t.Helper()
	m, e := New(i, d)
	if e != api.OK || m == nil {
		t.Fatalf("New: %v, %v", m, e)
	}
	return m
}

// machine has these words, begins with the first, and has a disk of 8 sectors.
func machine(t *testing.T, words ...uint32) *Machine {
	t.Helper()
	return over(t, api.Image{Words: words}, newDisk(t, 8))
}

// word is that of an instruction.
func word(i api.Instr) uint32 {
	w, e := cpu.Encode(i)
	if e != api.OK {
		panic(e)
	}
	return w
}

func set(a, n int) uint32 { return word(api.Instr{Format: api.FImm, Op: api.MOV, A: a, N: n}) }

// setHigh has ones in the upper half, as the devices' addresses have.
func setHigh(a, n int) uint32 {
	return word(api.Instr{Format: api.FImm, V: true, Op: api.MOV, A: a, N: n})
}

func add(a, b, n int) uint32 {
	return word(api.Instr{Format: api.FImm, Op: api.ADD, A: a, B: b, N: n})
}

func divide(a, b, n int) uint32 {
	return word(api.Instr{Format: api.FImm, Op: api.DIV, A: a, B: b, N: n})
}

func load(a, b, n int) uint32 { return word(api.Instr{Format: api.FMem, A: a, B: b, N: n}) }
func loadByte(a, b, n int) uint32 {
	return word(api.Instr{Format: api.FMem, V: true, A: a, B: b, N: n})
}
func store(a, b, n int) uint32 { return word(api.Instr{Format: api.FMem, U: true, A: a, B: b, N: n}) }
func storeByte(a, b, n int) uint32 {
	return word(api.Instr{Format: api.FMem, U: true, V: true, A: a, B: b, N: n})
}
func jump(n int) uint32 { return word(api.Instr{Format: api.FBranch, U: true, A: 7, N: n}) }
func trap(n int) uint32 { return word(api.Instr{Format: api.FImm, Op: api.TRAP, N: n}) }

// ends runs a machine, and asks for how that ends.
func ends(t *testing.T, m *Machine, most int64, want api.End) {
	t.Helper()
	before := m.Steps()
	if got := m.Run(most); got != want {
		t.Errorf("Run(%d): %+v, not %+v", most, got, want)
	}
	if m.Steps() != before+want.Steps {
		t.Errorf("Run(%d): %d steps in all behind %d, not %d more", most, m.Steps(), before, want.Steps)
	}
}

// has asks for a word of memory.
func has(t *testing.T, m *Machine, addr, want uint32) {
	t.Helper()
	if w, ok := m.Word(addr); w != want || !ok {
		t.Errorf("the word at %x: %x, %v; not %x", addr, w, ok, want)
	}
}

// state is all that can be told of a machine.
type state struct {
	cpu    api.Cpu
	steps  int64
	memory []uint32
	image  []byte
	writes []int
	out    string
	waits  int
}

func memory(b *bus.Bus) []uint32 {
	all := make([]uint32, memWords)
	for i := range all {
		all[i], _ = b.Word(uint32(i) * 4)
	}
	return all
}

func stateOf(m *Machine) state {
	return state{
		cpu: m.Cpu(), steps: m.Steps(), memory: memory(m.Bus), image: m.Disk().Image(),
		writes: m.Disk().Writes(), out: m.Out(), waits: m.Waiting(),
	}
}

func same(t *testing.T, what string, a, b state) {
	t.Helper()
	if a.cpu != b.cpu || a.steps != b.steps {
		t.Errorf("%s: %+v, %d steps; and %+v, %d steps", what, a.cpu, a.steps, b.cpu, b.steps)
	}
	if !slices.Equal(a.memory, b.memory) {
		t.Errorf("%s: another memory", what)
	}
	if !slices.Equal(a.image, b.image) || !slices.Equal(a.writes, b.writes) {
		t.Errorf("%s: another disk: writes %v, %v", what, a.writes, b.writes)
	}
	if a.out != b.out || a.waits != b.waits {
		t.Errorf("%s: %q, %d wait; and %q, %d wait", what, a.out, a.waits, b.out, b.waits)
	}
}

// The chapter's table of examples.
func TestExamples(t *testing.T) {
	m := machine(t, mov7, halt)
	ends(t, m, 10, api.End{Kind: api.EndHalt, Steps: 2})
	if c := m.Cpu(); c.R[0] != 7 || c.PC != 4 {
		t.Error(c)
	}
	ends(t, m, 10, api.End{Kind: api.EndHalt, Steps: 1})
	if c := m.Cpu(); c.R[0] != 7 || c.PC != 4 || m.Steps() != 3 {
		t.Error(c, m.Steps())
	}

	ends(t, machine(t, trap9), 10, api.End{Kind: api.EndTrap, Trap: 9, At: 0, Steps: 1})

	m = machine(t, trap9, 0, halt, 0, 8)
	ends(t, m, 10, api.End{Kind: api.EndHalt, Steps: 2})
	has(t, m, api.TrapNumber, 9)
	has(t, m, api.TrapPlace, 0)
	if m.Cpu().PC != 8 {
		t.Error(m.Cpu())
	}

	ends(t, machine(t, illegal), 10, api.End{Kind: api.EndIllegal})
	ends(t, machine(t, loop), 10, api.End{Kind: api.EndBudget, Steps: 10})

	all := make([]uint32, memWords)
	for i := range all {
		all[i] = 0x40000000
	}
	m = machine(t, all...)
	ends(t, m, math.MaxInt64, api.End{Kind: api.EndBad, At: memEnd, Steps: memWords})
	m = over(t, api.Image{Words: all, Entry: memEnd - 4}, newDisk(t, 8))
	ends(t, m, 10, api.End{Kind: api.EndBad, At: memEnd, Steps: 1})
	ends(t, m, 10, api.End{Kind: api.EndBad, At: memEnd})
}

// The examples' words are the instructions that these tests' helpers make.
func TestWordsOfTests(t *testing.T) {
	got := []uint32{set(0, 7), trap(0), trap(9), jump(-1)}
	if want := []uint32{mov7, halt, trap9, loop}; !slices.Equal(got, want) {
		t.Errorf("%x, not %x", got, want)
	}
}

func TestNumbers(t *testing.T) {
	if api.ErrNil != 1 || api.ErrMachImage != 50 {
		t.Error(int(api.ErrNil), int(api.ErrMachImage))
	}
	kinds := []int{api.EndBudget, api.EndWait, api.EndHalt, api.EndTrap, api.EndIllegal, api.EndBad, api.EndCut}
	if !slices.Equal(kinds, []int{1, 2, 3, 4, 5, 6, 7}) {
		t.Error(kinds)
	}
}

// P5.1
func TestNew(t *testing.T) {
	d := newDisk(t, 9)
	words := []uint32{1, 0xFFFFFFFF, 0x80000000}
	m := over(t, api.Image{Words: words, Entry: 12}, d)
	if c := m.Cpu(); c != (api.Cpu{PC: 12}) {
		t.Errorf("%+v", c)
	}
	for i := range uint32(memWords) {
		want := uint32(0)
		if int(i) < len(words) {
			want = words[i]
		}
		has(t, m, i*4, want)
	}
	if m.Steps() != 0 || m.Out() != "" || m.Waiting() != 0 || m.Disk() != d || len(d.Writes()) != 0 {
		t.Error(m.Steps(), m.Out(), m.Waiting(), m.Disk(), d.Writes())
	}
	if m := over(t, api.Image{}, d); m.Cpu() != (api.Cpu{}) {
		t.Errorf("%+v", m.Cpu())
	}
}

// P5.1: how many words, and which entries.
func TestNewEdges(t *testing.T) {
	full := make([]uint32, memWords+1)
	full[memWords-1] = 77
	for _, c := range []struct {
		name string
		i    api.Image
		want api.Errno
	}{
		{"all of memory", api.Image{Words: full[:memWords]}, api.OK},
		{"one word more", api.Image{Words: full}, api.ErrMachImage},
		{"one word more, and a wrong entry", api.Image{Words: full, Entry: 1}, api.ErrMachImage},
		{"the last word", api.Image{Entry: memEnd - 4}, api.OK},
		{"behind memory", api.Image{Entry: memEnd}, api.ErrMachImage},
		{"the last byte", api.Image{Entry: memEnd - 1}, api.ErrMachImage},
		{"1", api.Image{Entry: 1}, api.ErrMachImage},
		{"2", api.Image{Entry: 2}, api.ErrMachImage},
		{"3", api.Image{Entry: 3}, api.ErrMachImage},
		{"4", api.Image{Entry: 4}, api.OK},
		{"a device", api.Image{Entry: api.IOTimer}, api.ErrMachImage},
		{"the last address", api.Image{Entry: 0xFFFFFFFC}, api.ErrMachImage},
		{"half of all addresses", api.Image{Entry: 0x80000000}, api.ErrMachImage},
	} {
		m, e := New(c.i, newDisk(t, 8))
		if e != c.want || (m == nil) != (e != api.OK) {
			t.Errorf("%s: %v, %v", c.name, m, e)
		}
		if m, e := New(c.i, nil); m != nil || e != api.ErrNil { // ErrNil is named first
			t.Errorf("%s, no disk: %v, %v", c.name, m, e)
		}
	}
	has(t, machine(t, full[:memWords]...), memEnd-4, 77)
}

// P5.2: how many steps a run does at most.
func TestBudget(t *testing.T) {
	for _, most := range []int64{math.MinInt64, math.MinInt64 + 1, math.MinInt32, -1, 0} {
		m := machine(t, set(1, 1), jump(-2))
		m.Run(3)
		before := stateOf(m)
		ends(t, m, most, api.End{Kind: api.EndBudget})
		same(t, "no budget", before, stateOf(m))
	}
	for _, most := range []int64{1, 2, 3, 1000} {
		ends(t, machine(t, set(1, 1), jump(-2)), most, api.End{Kind: api.EndBudget, Steps: most})
	}
	m := machine(t, set(1, 1), jump(-2))
	m.Run(1)
	if c := m.Cpu(); c.PC != 4 || c.R[1] != 1 {
		t.Error(c)
	}
}

// P5.2: no run does more than MaxBudget steps; each run counts anew.
func TestMaxBudget(t *testing.T) {
	m := machine(t, loop)
	ends(t, m, math.MaxInt64, api.End{Kind: api.EndBudget, Steps: 10000000})
	ends(t, m, 5, api.End{Kind: api.EndBudget, Steps: 5})
}

// P5.2: a budget that ends ahead of an instruction is not overtaken by how that would end.
func TestBudgetAheadOfEnd(t *testing.T) {
	last := map[string]uint32{"halt": halt, "trap": trap9, "illegal": illegal, "bad": load(0, 0, 1), "wait": load(2, 1, 0)}
	for name, w := range last {
		m := machine(t, setHigh(1, 0xFFC4), w)
		if got := m.Run(1); got != (api.End{Kind: api.EndBudget, Steps: 1}) {
			t.Errorf("%s: %+v", name, got)
		}
	}
}

// P5.2, of 'A run': where nothing is done the step does not count, and PC stays. P5.3: the end comes again.
func TestStuck(t *testing.T) {
	for _, c := range []struct {
		name string
		w    uint32
		kind int
	}{
		{"illegal", illegal, api.EndIllegal},
		{"illegal, a branch", 0xC0000010, api.EndIllegal},
		{"illegal, an operation", 0x000C0000, api.EndIllegal},
		{"load a word, no multiple of 4", load(2, 0, 2), api.EndBad},
		{"load a word behind memory", load(2, 3, 0), api.EndBad},
		{"load a byte behind memory", loadByte(2, 3, 0), api.EndBad},
		{"store a word, no multiple of 4", store(2, 0, 1), api.EndBad},
		{"store a word behind memory", store(2, 3, 0), api.EndBad},
		{"store a byte behind memory", storeByte(2, 3, 0), api.EndBad},
		{"load a byte of a device", loadByte(2, 1, 4), api.EndBad},
		{"store a byte at a device", storeByte(2, 1, 4), api.EndBad},
		{"store at the timer", store(2, 1, 0), api.EndBad},
		{"store at the status", store(2, 1, 8), api.EndBad},
		{"store at how many sectors", store(2, 1, 24), api.EndBad},
		{"load behind the devices", load(2, 1, 28), api.EndBad},
		{"load ahead of the devices", load(2, 1, -4), api.EndBad},
	} {
		m := machine(t, setHigh(1, 0xFFC0), add(2, 0, 5), word(api.Instr{Format: api.FImm, U: true, Op: api.MOV, A: 3, N: 16}), c.w, halt)
		if e := m.Feed("ab"); e != api.OK {
			t.Fatal(e)
		}
		m.Run(3)
		before := stateOf(m)
		want := api.End{Kind: c.kind, At: 12}
		for range 3 {
			if got := m.Run(10); got != want {
				t.Errorf("%s: %+v, not %+v", c.name, got, want)
			}
		}
		same(t, c.name, before, stateOf(m))
	}
}

// P5.2: PC is no multiple of 4, or not in memory.
func TestBadPlace(t *testing.T) {
	back := word(api.Instr{Format: api.FBranch, A: 7, C: 1}) // goes on at R1
	for _, c := range []struct {
		n    int
		high bool
		at   uint32
	}{
		{n: 1, at: 1}, {n: 2, at: 2}, {n: 3, at: 3}, {n: 0xFFFF, at: 0xFFFF},
		{0xFFC0, true, api.IOTimer}, {0xFFC4, true, api.IOData}, {0xFFFC, true, 0xFFFFFFFC}, {0, true, 0xFFFF0000},
	} {
		first := set(1, c.n)
		if c.high {
			first = setHigh(1, c.n)
		}
		m := machine(t, first, back)
		m.Feed("abc")
		ends(t, m, 10, api.End{Kind: api.EndBad, At: c.at, Steps: 2})
		ends(t, m, 10, api.End{Kind: api.EndBad, At: c.at})
		if m.Cpu().PC != c.at || m.Waiting() != 3 {
			t.Error(m.Cpu(), m.Waiting())
		}
	}
}

// P5.2, P5.3: a machine that waits goes on when it is fed; the waiting instruction counts but once.
func TestWait(t *testing.T) {
	m := machine(t, setHigh(1, 0xFFC4), load(2, 1, 0), store(2, 1, 0), jump(-3))
	ends(t, m, 100, api.End{Kind: api.EndWait, Steps: 1})
	before := stateOf(m)
	ends(t, m, 100, api.End{Kind: api.EndWait})
	same(t, "it waits", before, stateOf(m))
	if e := m.Feed("ab"); e != api.OK {
		t.Fatal(e)
	}
	ends(t, m, 100, api.End{Kind: api.EndWait, Steps: 6})
	if c := m.Cpu(); m.Out() != "ab" || c.PC != 4 || c.R[2] != 'b' {
		t.Error(m.Out(), c)
	}
	m.Feed("c")
	ends(t, m, 3, api.End{Kind: api.EndBudget, Steps: 3})
	ends(t, m, 0, api.End{Kind: api.EndBudget})
	ends(t, m, 1, api.End{Kind: api.EndWait})
	if m.Out() != "abc" {
		t.Error(m.Out())
	}
}

// P5.3: behind EndHalt and EndTrap the same instruction comes again, and counts.
func TestEndsAgain(t *testing.T) {
	m := machine(t, set(1, 3), trap(0))
	ends(t, m, 10, api.End{Kind: api.EndHalt, Steps: 2})
	before := stateOf(m)
	for range 3 {
		ends(t, m, 10, api.End{Kind: api.EndHalt, Steps: 1})
	}
	before.steps += 3
	same(t, "halt again", before, stateOf(m))
	ends(t, m, 0, api.End{Kind: api.EndBudget})

	m = machine(t, set(1, 3), trap(65535))
	ends(t, m, 10, api.End{Kind: api.EndTrap, Trap: 65535, At: 4, Steps: 2})
	before = stateOf(m)
	for range 3 {
		ends(t, m, 10, api.End{Kind: api.EndTrap, Trap: 65535, At: 4, Steps: 1})
	}
	before.steps += 3
	same(t, "trap again", before, stateOf(m))
}

// P5.2, of 'A run': a trap without a vector changes nothing, and is one of the instruction's address.
func TestTrapWithoutVector(t *testing.T) {
	for _, c := range []struct {
		w    uint32
		trap int
	}{{trap(1), 1}, {trap(9), 9}, {trap(10), 10}, {trap(65535), 65535}, {divide(2, 1, 0), 6}} {
		m := machine(t, set(1, 3), jump(6), 0, 0, 0, 0x55, 0x66, 0, c.w)
		m.Run(2)
		before := stateOf(m)
		ends(t, m, 10, api.End{Kind: api.EndTrap, Trap: c.trap, At: 32, Steps: 1})
		before.steps++
		same(t, "a trap", before, stateOf(m))
	}
}

// P5.7
func TestTrapWithVector(t *testing.T) {
	for _, c := range []struct {
		w    uint32
		trap uint32
	}{{trap(1), 1}, {trap(9), 9}, {trap(10), 10}, {trap(65535), 65535}, {divide(2, 1, 0), 6}} {
		m := machine(t, set(1, 3), jump(6), 0, 0, 40, 0x55, 0x66, 0, c.w, halt, jump(-1))
		m.Run(2)
		before := stateOf(m)
		ends(t, m, 1, api.End{Kind: api.EndBudget, Steps: 1})
		has(t, m, api.TrapNumber, c.trap)
		has(t, m, api.TrapPlace, 32)
		if m.Cpu().PC != 40 {
			t.Error(m.Cpu())
		}
		before.steps++
		before.cpu.PC = 40
		before.memory[api.TrapNumber/4], before.memory[api.TrapPlace/4] = c.trap, 32
		same(t, "a trap with a vector", before, stateOf(m)) // no register, no flag, no other word
		ends(t, m, 10, api.End{Kind: api.EndBudget, Steps: 10})
	}
}

// P5.7: trap 0 ends the run, whatever the vector is; a later trap has the vector that stands there then.
func TestVector(t *testing.T) {
	m := machine(t, halt, 0, 0, 0, 8, 0x55, 0x66)
	ends(t, m, 10, api.End{Kind: api.EndHalt, Steps: 1})
	has(t, m, api.TrapNumber, 0x55)
	has(t, m, api.TrapPlace, 0x66)

	// the program lays the vector itself, and takes it away again
	m = machine(t, set(1, 36), store(1, 0, 16), jump(5), 0, 0, 0, 0, 0, trap(3), set(1, 0), store(1, 0, 16), trap(4))
	ends(t, m, 100, api.End{Kind: api.EndTrap, Trap: 4, At: 44, Steps: 7})
	has(t, m, api.TrapNumber, 3)
	has(t, m, api.TrapPlace, 32)

	// a vector where no instruction can stand
	for _, at := range []uint32{1, 2, 6, memEnd, api.IOData, 0xFFFFFFFF} {
		m = machine(t, trap9, 0, 0, 0, at)
		m.Feed("abcd")
		ends(t, m, 1, api.End{Kind: api.EndBudget, Steps: 1})
		ends(t, m, 10, api.End{Kind: api.EndBad, At: at})
		has(t, m, api.TrapNumber, 9)
		if m.Cpu().PC != at || m.Waiting() != 4 {
			t.Error(m.Cpu(), m.Waiting())
		}
	}

	// the handler traps itself
	m = machine(t, trap9, 0, trap(2), 0, 8)
	ends(t, m, 7, api.End{Kind: api.EndBudget, Steps: 7})
	has(t, m, api.TrapNumber, 2)
	has(t, m, api.TrapPlace, 8)
}

// writer writes sectors 0, 1, 2 .. from address 0 on, for ever: two steps ahead, then four a write, the command the second.
func writer(t *testing.T, d *disk.Disk) *Machine {
	t.Helper()
	return over(t, api.Image{Words: []uint32{
		setHigh(1, 0xFFCC), set(3, 2), // R1: IOSector; R3: the command that writes
		store(2, 1, 0), store(3, 1, 8), add(2, 2, 1), jump(-4),
	}}, d)
}

// P5.2, P5.4: the power goes at a write.
func TestCutAt(t *testing.T) {
	for writes := range 9 {
		m := writer(t, newDisk(t, 8))
		m.CutAt(writes)
		want := api.End{Kind: api.EndCut, Steps: 4 * int64(writes)}
		if writes == 0 {
			want.Steps = 0
		}
		ends(t, m, 1000, want)
		if n := len(m.Disk().Writes()); n != writes {
			t.Errorf("%d writes, not %d", n, writes)
		}
		before := stateOf(m)
		ends(t, m, 1000, api.End{Kind: api.EndCut}) // P5.3
		ends(t, m, 0, api.End{Kind: api.EndCut})    // named ahead of EndBudget
		ends(t, m, math.MinInt64, api.End{Kind: api.EndCut})
		same(t, "no power", before, stateOf(m))
	}
	m := writer(t, newDisk(t, 8)) // the disk has no ninth sector: that is no write
	m.CutAt(9)
	ends(t, m, 1000, api.End{Kind: api.EndBudget, Steps: 1000})
}

// P5.2: EndCut is asked for ahead of EndBudget, and ahead of each step alone.
func TestCutAheadOfBudget(t *testing.T) {
	m := writer(t, newDisk(t, 8))
	m.CutAt(1)
	ends(t, m, 3, api.End{Kind: api.EndBudget, Steps: 3})
	ends(t, m, 1, api.End{Kind: api.EndCut, Steps: 1})
	if got := m.Disk().Writes(); !slices.Equal(got, []int{0}) || m.Cpu().PC != 16 {
		t.Error(got, m.Cpu())
	}
	m = writer(t, newDisk(t, 8))
	m.CutAt(1)
	ends(t, m, 4, api.End{Kind: api.EndCut, Steps: 4})

	for _, w := range []uint32{halt, trap9, illegal, load(0, 0, 1), load(2, 1, -8)} { // the power is gone ahead of how these would end
		m = machine(t, setHigh(1, 0xFFCC), set(3, 2), store(3, 1, 8), w)
		m.CutAt(1)
		ends(t, m, 10, api.End{Kind: api.EndCut, Steps: 3})
	}
}

// P5.3, P5.4: another number lets it go on; the last one holds; below 0: never, as at first.
func TestCutAgain(t *testing.T) {
	m := writer(t, newDisk(t, 8))
	m.CutAt(2)
	ends(t, m, 1000, api.End{Kind: api.EndCut, Steps: 8})
	m.CutAt(2)
	ends(t, m, 1000, api.End{Kind: api.EndCut})
	m.CutAt(1) // it has had more than that
	ends(t, m, 1000, api.End{Kind: api.EndCut})
	m.CutAt(4)
	ends(t, m, 1000, api.End{Kind: api.EndCut, Steps: 8})
	m.CutAt(7)
	m.CutAt(5)
	ends(t, m, 1000, api.End{Kind: api.EndCut, Steps: 4})
	m.CutAt(math.MaxInt)
	ends(t, m, 1, api.End{Kind: api.EndBudget, Steps: 1})
	for _, writes := range []int{-1, -2, math.MinInt} {
		m.CutAt(0)
		ends(t, m, 1000, api.End{Kind: api.EndCut})
		m.CutAt(writes)
		ends(t, m, 10, api.End{Kind: api.EndBudget, Steps: 10})
	}
	if got := m.Disk().Writes(); !slices.Equal(got, []int{0, 1, 2, 3, 4, 5, 6, 7}) {
		t.Error(got)
	}
}

// P5.4: at first the power never goes, not even of a disk that bears no more writes.
func TestWornDisk(t *testing.T) {
	d := newDisk(t, 8)
	for range api.MaxWrites {
		if e := d.Write(1, make([]byte, api.SectorBytes)); e != api.OK {
			t.Fatal(e)
		}
	}
	m := writer(t, d)
	ends(t, m, 10, api.End{Kind: api.EndBudget, Steps: 10})
	m.CutAt(api.MaxWrites + 1)
	ends(t, m, 100, api.End{Kind: api.EndBudget, Steps: 100})
	m.CutAt(api.MaxWrites)
	ends(t, m, 100, api.End{Kind: api.EndCut})
}

// The power is gone by the disk's writes from its making on, whoever has done them.
func TestCutCountsAllWrites(t *testing.T) {
	d := newDisk(t, 8)
	blank := make([]byte, api.SectorBytes)
	for range 3 {
		if e := d.Write(0, blank); e != api.OK {
			t.Fatal(e)
		}
	}
	m := writer(t, d)
	m.CutAt(3)
	ends(t, m, 1000, api.End{Kind: api.EndCut})
	m.CutAt(4)
	ends(t, m, 1000, api.End{Kind: api.EndCut, Steps: 4})
	m.CutAt(6)
	ends(t, m, 2, api.End{Kind: api.EndBudget, Steps: 2})
	for range 2 { // between runs
		if e := d.Write(7, blank); e != api.OK {
			t.Fatal(e)
		}
	}
	ends(t, m, 1000, api.End{Kind: api.EndCut})

	other := writer(t, d) // a second machine on the same disk
	ends(t, other, 4, api.End{Kind: api.EndBudget, Steps: 4})
	m.CutAt(8)
	ends(t, m, 1000, api.End{Kind: api.EndCut, Steps: 2})
}

// A read of the disk, and a write that it refuses, are no writes.
func TestCutByWritesAlone(t *testing.T) {
	m := machine(t,
		setHigh(1, 0xFFCC), set(5, 1024), store(5, 1, 4), // IOAddress
		set(3, 1), store(3, 1, 8), // a read
		set(3, 7), store(3, 1, 8), // no command
		set(3, 2), set(2, 8), store(2, 1, 0), store(3, 1, 8), load(4, 1, 8), // a write of a sector that the disk has not
		set(2, 3), store(2, 1, 0), store(3, 1, 8), load(6, 1, 8), halt)
	m.CutAt(1)
	ends(t, m, 100, api.End{Kind: api.EndCut, Steps: 15})
	if c := m.Cpu(); c.R[4] != 1 || c.PC != 60 {
		t.Error(c)
	}
	m.CutAt(-1)
	ends(t, m, 100, api.End{Kind: api.EndHalt, Steps: 2})
	if c := m.Cpu(); c.R[6] != 0 || !slices.Equal(m.Disk().Writes(), []int{3}) {
		t.Error(c, m.Disk().Writes())
	}
}

// A read lays a sector over memory: the instruction that comes next is what stands there then.
func TestReadOverProgram(t *testing.T) {
	m := machine(t, setHigh(1, 0xFFCC), set(3, 1), store(3, 1, 8), illegal, trap9)
	m.Run(2)
	m.CutAt(1)
	ends(t, m, 3, api.End{Kind: api.EndBudget, Steps: 3}) // noughts are MOV R0, R0
	has(t, m, 8, 0)
	has(t, m, 16, 0)
}

// P5.4: what is the bus's.
func TestBusCalls(t *testing.T) {
	d := newDisk(t, 8)
	m := over(t, api.Image{Words: []uint32{setHigh(1, 0xFFC0), load(2, 1, 0), load(3, 1, 8), load(4, 1, 24), jump(-4)}}, d)
	ends(t, m, 4, api.End{Kind: api.EndBudget, Steps: 4})
	if c := m.Cpu(); c.R[2] != 0 || c.R[3] != 2 || c.R[4] != 8 {
		t.Error(c)
	}
	m.Tick(5)
	m.Tick(0xFFFFFFFE)
	if e := m.Feed("x"); e != api.OK {
		t.Error(e)
	}
	ends(t, m, 4, api.End{Kind: api.EndBudget, Steps: 4})
	if c := m.Cpu(); c.R[2] != 3 || c.R[3] != 3 {
		t.Error(c)
	}
	if e := m.Feed(strings.Repeat("y", api.MaxIn)); e != api.ErrBusFull {
		t.Error(e)
	}
	if e := m.Feed(strings.Repeat("y", api.MaxIn-1)); e != api.OK || m.Waiting() != api.MaxIn {
		t.Error(e)
	}
	for _, addr := range []uint32{1, 2, 3, memEnd, memEnd - 1, api.IOTimer, 0xFFFFFFFC} {
		if w, ok := m.Word(addr); w != 0 || ok {
			t.Errorf("the word at %x: %x, %v", addr, w, ok)
		}
	}
	has(t, m, 0, setHigh(1, 0xFFC0))
	if m.Disk() != d || m.Out() != "" {
		t.Error(m.Disk(), m.Out())
	}
}

// What is put out, beyond what a machine keeps.
func TestOut(t *testing.T) {
	m := machine(t, setHigh(1, 0xFFC4), store(2, 1, 0), add(2, 2, 1), jump(-3))
	m.Run(1 + 3*300)
	out := m.Out()
	if len(out) != 300 || out[0] != 0 || out[255] != 255 || out[256] != 0 {
		t.Errorf("%q", out)
	}
	m.Run(3 * api.MaxOut)
	if n := len(m.Out()); n != api.MaxOut {
		t.Error(n)
	}
}

// P5.4: Cpu and Steps.
func TestCpuAndSteps(t *testing.T) {
	m := machine(t, set(1, 65535), add(2, 1, 1), divide(3, 2, 7), jump(-1))
	m.Run(1)
	m.Run(2)
	c := m.Cpu()
	want := api.Cpu{PC: 12, H: 65536 % 7}
	want.R[1], want.R[2], want.R[3] = 65535, 65536, 65536/7
	if c != want || m.Steps() != 3 {
		t.Errorf("%+v, %d", c, m.Steps())
	}
	c.PC, c.R[1] = 4, 0 // what is answered is not the machine's own
	if m.Cpu() != want {
		t.Errorf("%+v", m.Cpu())
	}
	m.Run(5)
	if m.Steps() != 8 {
		t.Error(m.Steps())
	}
}

// P5.5: the image's words, and what lies behind them, are neither written into nor kept.
func TestImageIsNotKept(t *testing.T) {
	room := []uint32{set(1, 77), store(1, 0, 0), store(1, 0, 20), jump(-1), 0, 5, 6, 7}
	before := slices.Clone(room)
	m := machine(t, room[:4]...)
	m2 := over(t, api.Image{Words: room[:4]}, newDisk(t, 8))
	ends(t, m2, 10, api.End{Kind: api.EndBudget, Steps: 10})
	if !slices.Equal(room, before) {
		t.Errorf("%x", room)
	}
	has(t, m2, 0, 77)
	has(t, m2, 20, 77)
	room[0] = illegal
	has(t, m, 0, before[0])
	m3 := over(t, api.Image{Words: room[:4]}, newDisk(t, 8))
	room[0], room[1] = halt, halt
	ends(t, m3, 10, api.End{Kind: api.EndIllegal})
}

// P5.5: the disk alone is kept, and worked on.
func TestDiskIsWorkedOn(t *testing.T) {
	d := newDisk(t, 8)
	m := writer(t, d)
	m.Run(4)
	read, e := d.Read(0)
	if w, _ := m.Word(0); e != api.OK || read[0] != byte(w) || read[3] != byte(w>>24) {
		t.Error(read[:4], e)
	}
	if !slices.Equal(d.Writes(), []int{0}) {
		t.Error(d.Writes())
	}
}

// P5.5: a nil machine.
func TestNil(t *testing.T) {
	var m *Machine
	for _, most := range []int64{math.MinInt64, 0, 1, math.MaxInt64} {
		if e := m.Run(most); e != (api.End{}) {
			t.Error(e)
		}
	}
	m.CutAt(0)
	m.Tick(3)
	if e := m.Feed("a"); e != api.ErrNil {
		t.Error(e)
	}
	if e := m.Feed(strings.Repeat("a", api.MaxIn+1)); e != api.ErrNil {
		t.Error(e)
	}
	if m.Out() != "" || m.Disk() != nil || m.Cpu() != (api.Cpu{}) || m.Steps() != 0 {
		t.Error(m.Out(), m.Disk(), m.Cpu(), m.Steps())
	}
	if w, ok := m.Word(0); w != 0 || ok {
		t.Error(w, ok)
	}
}

// R1: a machine that New did not make, and a disk that is none, panic neither.
func TestEmpty(t *testing.T) {
	m := new(Machine)
	m.Run(10)
	m.CutAt(-1)
	ends(t, m, 10, api.End{Kind: api.EndBad})
	m.Feed("a")
	m.Tick(1)
	if w, ok := m.Word(0); w != 0 || ok || m.Out() != "" || m.Disk() != nil || m.Cpu() != (api.Cpu{}) {
		t.Error(w, ok, m.Out(), m.Disk(), m.Cpu())
	}
	m = writer(t, new(disk.Disk))
	m.CutAt(1)
	ends(t, m, 100, api.End{Kind: api.EndBudget, Steps: 100})
}

// plain is a machine as DOC.md's 'A run' says it, asked anew for everything ahead of each step.
type plain struct {
	b     *bus.Bus
	c     api.Cpu
	steps int64
	cut   int
}

func (p *plain) run(most int64) api.End {
	end := api.End{}
	for {
		if p.cut >= 0 && len(p.b.Disk().Writes()) >= p.cut {
			end.Kind = api.EndCut
			return end
		}
		if end.Steps >= most || end.Steps >= 10000000 {
			end.Kind = api.EndBudget
			return end
		}
		if p.c.PC%4 != 0 || p.c.PC >= memEnd {
			end.Kind, end.At = api.EndBad, p.c.PC
			return end
		}
		w, _ := p.b.Word(p.c.PC)
		i, right := cpu.Decode(w)
		if !right {
			end.Kind, end.At = api.EndIllegal, p.c.PC
			return end
		}
		loaded, how := p.b.Do(cpu.Access(p.c, i))
		if how == api.BadAddress {
			end.Kind, end.At = api.EndBad, p.c.PC
			return end
		}
		if how == api.MustWait {
			end.Kind = api.EndWait
			return end
		}
		end.Steps++
		p.steps++
		next, n, traps := cpu.Exec(p.c, i, loaded)
		if !traps {
			p.c = next
			continue
		}
		if n == 0 {
			end.Kind = api.EndHalt
			return end
		}
		vector, _ := p.b.Word(16)
		if vector == 0 {
			end.Kind, end.Trap, end.At = api.EndTrap, n, p.c.PC
			return end
		}
		p.b.Poke(20, uint32(n))
		p.b.Poke(24, p.c.PC)
		p.c.PC = vector
	}
}

func (p *plain) state() state {
	return state{
		cpu: p.c, steps: p.steps, memory: memory(p.b), image: p.b.Disk().Image(),
		writes: p.b.Disk().Writes(), out: p.b.Out(), waits: p.b.Waiting(),
	}
}

// someInstruction is one that a program of chance has. R1 is mostly near the devices, R0 small.
func someInstruction(r *rand.Rand) uint32 {
	a, b := 2+r.Intn(4), r.Intn(6)
	device := 4 * r.Intn(8)
	switch r.Intn(24) {
	case 0, 1:
		return set(a, r.Intn(2048)*4)
	case 2, 3:
		return set(a, r.Intn(10))
	case 4, 5, 6, 7:
		return store(a, 1, device)
	case 8, 9, 10:
		return load(a, 1, device)
	case 11:
		return load(a, 0, 4*r.Intn(64))
	case 12:
		return loadByte(a, b, r.Intn(64))
	case 13:
		return store(a, 0, 4*r.Intn(300))
	case 14:
		return storeByte(a, 0, 256+r.Intn(64))
	case 15:
		return word(api.Instr{Format: api.FBranch, U: true, V: r.Intn(2) == 0, A: r.Intn(16), N: r.Intn(16) - 6})
	case 16:
		return trap(r.Intn(12))
	case 17:
		return divide(a, b, r.Intn(3))
	case 18:
		return load(a, b, r.Intn(9))
	case 19:
		return store(a, b, r.Intn(9))
	case 20:
		return word(api.Instr{Format: api.FBranch, V: true, A: 7 + 8*r.Intn(2), C: r.Intn(16)})
	case 21:
		if r.Intn(4) == 0 {
			return r.Uint32()
		}
	}
	return add(a, b, r.Intn(2000))
}

// someImage has a vector or none, and its program at 32.
func someImage(r *rand.Rand) api.Image {
	words := make([]uint32, 8, 80)
	if r.Intn(3) > 0 {
		words[4] = uint32(32 + 4*r.Intn(64))
	}
	words = append(words, setHigh(1, 0xFFC0))
	for len(words) < 80 {
		words = append(words, someInstruction(r))
	}
	words = append(words, jump(-60))
	return api.Image{Words: words, Entry: 32}
}

// Programs of chance, run, fed, ticked and cut by chance, come to the same by DOC.md's words.
func TestAgainstPlain(t *testing.T) {
	r := rand.New(rand.NewSource(5))
	kinds := [8]int{}
	for range 150 {
		i := someImage(r)
		d, d2 := newDisk(t, 8), newDisk(t, 8)
		m := over(t, i, d)
		b, e := bus.New(i.Words, d2)
		if e != api.OK {
			t.Fatal(e)
		}
		p := &plain{b: b, c: api.Cpu{PC: i.Entry}, cut: -1}
		for range 40 {
			switch r.Intn(5) {
			case 0:
				s := strings.Repeat("q", r.Intn(4))
				if m.Feed(s) != b.Feed(s) {
					t.Error("Feed")
				}
			case 1:
				n := r.Uint32()
				m.Tick(n)
				b.Tick(n)
			case 2:
				p.cut = len(d.Writes()) + r.Intn(6) - 3
				m.CutAt(p.cut)
			}
			most := int64(r.Intn(60) - 2)
			got, want := m.Run(most), p.run(most)
			kinds[got.Kind]++
			if got != want || m.Cpu() != p.c || m.Steps() != p.steps {
				t.Fatalf("Run(%d): %+v, %+v, %d; not %+v, %+v, %d", most, got, m.Cpu(), m.Steps(), want, p.c, p.steps)
			}
		}
		same(t, "by chance", stateOf(m), p.state())
	}
	for kind := api.EndBudget; kind <= api.EndCut; kind++ {
		if kinds[kind] < 20 {
			t.Errorf("these programs do not end in each way: %v", kinds)
		}
	}
}

// P5.6: a run, and the same cut into runs.
func TestCutIntoRuns(t *testing.T) {
	r := rand.New(rand.NewSource(6))
	for range 150 {
		i := someImage(r)
		input, cut := strings.Repeat("q", r.Intn(9)), r.Intn(5)-1
		begin := func() *Machine {
			m := over(t, i, newDisk(t, 8))
			m.Feed(input)
			m.CutAt(cut)
			return m
		}
		whole, parts := begin(), begin()
		most := int64(1 + r.Intn(300))
		want := whole.Run(most)
		got, left := api.End{Kind: api.EndBudget}, most
		for got.Kind == api.EndBudget && left > 0 {
			n := min(left, int64(r.Intn(7)))
			got = parts.Run(n)
			if got.Kind == api.EndBudget && got.Steps != n {
				t.Errorf("Run(%d): %+v", n, got)
			}
			left -= got.Steps
		}
		got.Steps = most - left
		if got != want {
			t.Errorf("in parts %+v, at once %+v", got, want)
		}
		same(t, "in parts", stateOf(parts), stateOf(whole))
	}
}

// P5.6: a run with a greater budget begins as one with a smaller one does.
func TestGreaterBudget(t *testing.T) {
	r := rand.New(rand.NewSource(7))
	for range 60 {
		i := someImage(r)
		few := int64(r.Intn(40))
		many := few + int64(r.Intn(60))
		small, great := over(t, i, newDisk(t, 8)), over(t, i, newDisk(t, 8))
		a, b := small.Run(few), great.Run(many)
		if a.Kind != api.EndBudget {
			if a != b {
				t.Errorf("%+v, and with more %+v", a, b)
			}
			same(t, "ended", stateOf(small), stateOf(great))
			continue
		}
		if a.Steps != few || b.Steps < few || !strings.HasPrefix(great.Out(), small.Out()) {
			t.Errorf("%+v, %+v; %q, %q", a, b, small.Out(), great.Out())
		}
		if had := small.Disk().Writes(); !slices.Equal(had, great.Disk().Writes()[:len(had)]) {
			t.Error(had, great.Disk().Writes())
		}
		rest := small.Run(many - few) // comes behind what the smaller one has done
		rest.Steps += few
		if rest != b {
			t.Errorf("%+v, and at once %+v", rest, b)
		}
		same(t, "the rest", stateOf(small), stateOf(great))
	}
}

// R4: two machines have nothing to do with one another.
func TestApart(t *testing.T) {
	a := machine(t, setHigh(1, 0xFFC4), load(2, 1, 0), store(2, 0, 64), halt)
	b := machine(t, setHigh(1, 0xFFC4), load(2, 1, 0), store(2, 0, 64), halt)
	a.Feed("x")
	a.CutAt(0)
	ends(t, b, 10, api.End{Kind: api.EndWait, Steps: 1})
	ends(t, a, 10, api.End{Kind: api.EndCut})
	a.CutAt(-1)
	ends(t, a, 10, api.End{Kind: api.EndHalt, Steps: 4})
	has(t, a, 64, 'x')
	has(t, b, 64, 0)
}
