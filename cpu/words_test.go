package cpu

import (
	"math"
	"strings"
	"testing"

	"carrel/api"
)

// legalRows are DOC.md's formats and operations bit by bit, a dot for either bit; OOOO stands for each operation from 1 to 11, PPPP for ADD, SUB and MUL alone. (Written in groups, for the eye.)
var legalRows = []string{
	"00 00 .... 0000 0000 000000000000 ....", // MOV of a register
	"00 10 .... 0000 0000 000000000000 0000", // MOV of H
	"00 11 .... 0000 0000 000000000000 0000", // MOV of the flags
	"00 00 .... .... OOOO 000000000000 ....",
	"00 10 .... .... PPPP 000000000000 ....",
	"01 0. .... 0000 0000 ................", // MOV of a number, with noughts or ones ahead
	"01 10 .... 0000 0000 ................", // MOV into the upper half
	"01 0. .... .... OOOO ................",
	"01 1. .... .... PPPP ................",
	"01 00 0000 0000 1111 ................", // TRAP
	"10 .. .... .... ....................",
	"11 0. .... 00000000000000000000 ....",
	"11 1. .... ........................",
}

// pattern: a word matches, if its bits under mask are those of want.
type pattern struct{ mask, want uint32 }

func legalPatterns(t *testing.T) []pattern {
	var out []pattern
	for _, row := range legalRows {
		row = strings.ReplaceAll(row, " ", "")
		for _, op := range []string{"0001", "0010", "0011", "0100", "0101", "0110", "0111", "1000", "1001", "1010", "1011"} {
			made := strings.Replace(row, "OOOO", op, 1)
			if op == "1000" || op == "1001" || op == "1010" {
				made = strings.Replace(made, "PPPP", op, 1)
			}
			if strings.Contains(made, "P") {
				continue
			}
			out = append(out, patternOf(t, made))
			if made == row {
				break
			}
		}
	}
	return out
}

func patternOf(t *testing.T, bits string) pattern {
	if len(bits) != 32 {
		t.Fatalf("%q has %d bits", bits, len(bits))
	}
	var p pattern
	for k := range len(bits) {
		p.mask, p.want = p.mask<<1, p.want<<1
		if bits[k] != '.' {
			p.mask |= 1
		}
		if bits[k] == '1' {
			p.want |= 1
		}
	}
	return p
}

func matches(w uint32, ps []pattern) bool {
	for _, p := range ps {
		if w&p.mask == p.want {
			return true
		}
	}
	return false
}

var wordExamples = []struct {
	w uint32
	i api.Instr
}{
	{0x40000005, api.Instr{Format: api.FImm, Op: api.MOV, N: 5}},
	{0x5000FFFF, api.Instr{Format: api.FImm, V: true, Op: api.MOV, N: 0xFFFF}},
	{0x6000FFFF, api.Instr{Format: api.FImm, U: true, Op: api.MOV, N: 0xFFFF}},
	{0x01280003, api.Instr{Format: api.FReg, Op: api.ADD, A: 1, B: 2, C: 3}},
	{0x21280003, api.Instr{Format: api.FReg, U: true, Op: api.ADD, A: 1, B: 2, C: 3}},
	{0x01290003, api.Instr{Format: api.FReg, Op: api.SUB, A: 1, B: 2, C: 3}},
	{0x8230FFFC, api.Instr{Format: api.FMem, A: 2, B: 3, N: 65532}},
	{0xA2300004, api.Instr{Format: api.FMem, U: true, A: 2, B: 3, N: 4}},
	{0x823FFFFC, api.Instr{Format: api.FMem, A: 2, B: 3, N: -4}},
	{0xE7FFFFFF, api.Instr{Format: api.FBranch, U: true, A: 7, N: -1}},
	{0xF7000001, api.Instr{Format: api.FBranch, U: true, V: true, A: 7, N: 1}},
	{0xC700000F, api.Instr{Format: api.FBranch, A: 7, C: 15}},
	{0x4A000000, api.Instr{Format: api.FImm, Op: api.MOV, A: 10}},
	{0x400F0007, api.Instr{Format: api.FImm, Op: api.TRAP, N: 7}},
	{0x400FFFFF, api.Instr{Format: api.FImm, Op: api.TRAP, N: 65535}},
	{0x2F000000, api.Instr{Format: api.FReg, U: true, A: 15}},
	{0x3F000000, api.Instr{Format: api.FReg, U: true, V: true, A: 15}},
	{0x00000000, api.Instr{}},
	{0x0FFB000F, api.Instr{Format: api.FReg, Op: api.DIV, A: 15, B: 15, C: 15}},
	{0x7FFAFFFF, api.Instr{Format: api.FImm, U: true, V: true, Op: api.MUL, A: 15, B: 15, N: 65535}},
	{0x5FFBFFFF, api.Instr{Format: api.FImm, V: true, Op: api.DIV, A: 15, B: 15, N: 65535}},
	{0xBFF80000, api.Instr{Format: api.FMem, U: true, V: true, A: 15, B: 15, N: -524288}},
	{0x9FF7FFFF, api.Instr{Format: api.FMem, V: true, A: 15, B: 15, N: 524287}},
	{0xFF800000, api.Instr{Format: api.FBranch, U: true, V: true, A: 15, N: -8388608}},
	{0xE07FFFFF, api.Instr{Format: api.FBranch, U: true, N: 8388607}},
	{0xD0000000, api.Instr{Format: api.FBranch, V: true}},
}

func TestWordExamples(t *testing.T) { // P2.1
	for _, x := range wordExamples {
		if i, is := Decode(x.w); i != x.i || !is {
			t.Errorf("Decode(%08X) = %+v, %v", x.w, i, is)
		}
		if w, e := Encode(x.i); w != x.w || e != api.OK {
			t.Errorf("Encode(%+v) = %08X, %v", x.i, w, e)
		}
	}
}

func TestIllegalWordExamples(t *testing.T) { // P2.1
	for _, w := range []uint32{
		0x400C0000, 0x400D0000, 0x400E0000, 0x000C0000, 0x000F0000, // op 12 to 14; TRAP of FReg
		0x00000010, 0x00008000, 0x01280013, // bits 15 to 4 of FReg
		0x40100000, 0x00100000, 0x20100000, 0x60F00000, // MOV with b
		0x20000001, 0x30000001, // MOV of H, of the flags, with c
		0x10000000, 0x70000000, // MOV with v alone; into the upper half with v
		0x480F0000, 0x408F0000, 0x500F0000, 0x600F0000, 0x700F0000, // TRAP with a, b, v, u
		0x21200003, 0x212B0003, 0x612B0003, 0x61270000, // u of LSL, DIV, XOR
		0x11280003, 0x31280003, 0x112B0003, // v of FReg
		0xC7000010, 0xC7100000, 0xD7800000, 0xC7F0000F, // bits 23 to 4 of FBranch without u
		0x4F0F0000,
	} {
		if i, is := Decode(w); is || i != (api.Instr{}) {
			t.Errorf("Decode(%08X) = %+v, %v", w, i, is)
		}
	}
}

// Each upper half is gone through: it has all of format, u, v, op, a and b.
func TestWhichWordsAreIllegal(t *testing.T) { // P2.1, and what follows
	ps := legalPatterns(t)
	lows := []uint32{0, 1, 8, 0xF, 0x10, 0x1F, 0x20, 0x80, 0x100, 0x800, 0x1000, 0x4000, 0x7FFF, 0x8000, 0x8001, 0xFFF0, 0xFFFF}
	for high := range uint32(1 << 16) {
		for _, low := range lows {
			w := high<<16 | low
			i, is := Decode(w)
			if is != matches(w, ps) {
				t.Fatalf("Decode(%08X) = %+v, %v", w, i, is)
			}
			if !is && i != (api.Instr{}) {
				t.Fatalf("Decode(%08X) says no, and %+v", w, i)
			}
			if !is {
				continue
			}
			if back, e := Encode(i); back != w || e != api.OK {
				t.Fatalf("Encode(Decode(%08X)) = %08X, %v", w, back, e)
			}
		}
	}
}

// rightByChapter is the chapter's table of right instructions.
func rightByChapter(i api.Instr) bool {
	register := func(n int) bool { return n >= 0 && n <= 15 }
	switch i.Format {
	case api.FReg, api.FImm:
		return rightOp(i) && register(i.A) && register(i.B)
	case api.FMem:
		return register(i.A) && register(i.B) && i.N >= -524288 && i.N <= 524287 && i.C == 0 && i.Op == 0
	case api.FBranch:
		if !register(i.A) || i.B != 0 || i.Op != 0 {
			return false
		}
		if i.U {
			return i.C == 0 && i.N >= -8388608 && i.N <= 8388607
		}
		return i.N == 0 && register(i.C)
	}
	return false
}

func rightOp(i api.Instr) bool {
	imm := i.Format == api.FImm
	if imm && (i.C != 0 || i.N < 0 || i.N > 65535) || !imm && (i.N != 0 || i.C < 0 || i.C > 15) {
		return false
	}
	switch i.Op {
	case api.MOV:
		if imm {
			return i.B == 0 && !(i.U && i.V)
		}
		return i.B == 0 && (i.U && i.C == 0 || !i.U && !i.V)
	case api.ADD, api.SUB, api.MUL:
		return imm || !i.V
	case api.LSL, api.ASR, api.ROR, api.AND, api.ANN, api.IOR, api.XOR, api.DIV:
		return !i.U && (imm || !i.V)
	case api.TRAP:
		return imm && i.A == 0 && i.B == 0 && !i.U && !i.V
	}
	return false
}

// eachInstr hands out instructions, right and not: each field goes through its edges.
func eachInstr(yield func(api.Instr) bool) {
	registers := []int{-1, 0, 1, 15, 16}
	numbers := []int{
		math.MinInt, -1 << 32, -8388609, -8388608, -524289, -524288, -65536, -1, 0, 1, 65535, 65536,
		524287, 524288, 1<<20 - 1, 8388607, 8388608, 1<<24 - 1, 1 << 32, math.MaxInt,
	}
	ops := []int{math.MinInt, -1, 16, 17, 1 << 32, math.MaxInt}
	for op := range 16 {
		ops = append(ops, op)
	}
	for _, format := range []int{math.MinInt, -1, 0, 1, 2, 3, 4, 5, 1 << 32, math.MaxInt} {
		for way := range 4 {
			for _, op := range ops {
				for mix := range len(registers) * len(registers) * len(registers) {
					for _, n := range numbers {
						if !yield(api.Instr{
							Format: format, U: way > 1, V: way%2 == 1, Op: op, N: n,
							A: registers[mix%5], B: registers[mix/5%5], C: registers[mix/25],
						}) {
							return
						}
					}
				}
			}
		}
	}
}

func TestWhichInstructionsAreRight(t *testing.T) { // P2.1 to P2.3
	c := api.Cpu{H: 5, N: true, C: true, PC: 8}
	c.R[0], c.R[15] = 3, 4
	seen := 0
	for i := range eachInstr {
		w, e := Encode(i)
		if !rightByChapter(i) {
			d, n, traps := Exec(c, i, 7)
			if w != 0 || e != api.ErrCpuForm || d != c || n != 0 || traps || Access(c, i) != (api.Access{}) {
				t.Fatalf("%+v is not right: %08X, %v, %+v, %d, %v", i, w, e, d, n, traps)
			}
			continue
		}
		seen++
		if back, is := Decode(w); e != api.OK || back != i || !is {
			t.Fatalf("Decode(Encode(%+v)) = %+v, %v (%v)", i, back, is, e)
		}
	}
	if seen < 1000 {
		t.Fatalf("only %d right instructions were seen", seen)
	}
}

// A field that is 0 in its lowest 32 bits alone is not 0.
func TestWideFieldsAreNotCut(t *testing.T) { // P2.1
	const wide = 1 << 32
	for _, i := range []api.Instr{
		{Format: wide}, {A: wide}, {B: wide, Op: api.ADD}, {C: wide}, {Op: wide},
		{Format: api.FImm, N: wide}, {Format: api.FMem, N: wide}, {Format: api.FBranch, U: true, N: wide}, {Format: api.FBranch, A: wide},
	} {
		if w, e := Encode(i); w != 0 || e != api.ErrCpuForm {
			t.Errorf("Encode(%+v) = %08X, %v", i, w, e)
		}
	}
}

func TestAccess(t *testing.T) { // P2.2
	c := api.Cpu{}
	c.R[2], c.R[3], c.R[4] = 0x12345678, 8, 0xFFFFFFFF
	for _, x := range []struct {
		i    api.Instr
		want api.Access
	}{
		{api.Instr{Format: api.FMem, A: 2, B: 3, N: -4}, api.Access{Kind: api.LoadWord, Addr: 4}},
		{api.Instr{Format: api.FMem, A: 2, B: 3, N: -12}, api.Access{Kind: api.LoadWord, Addr: 0xFFFFFFFC}},
		{api.Instr{Format: api.FMem, V: true, A: 2, B: 3, N: 3}, api.Access{Kind: api.LoadByte, Addr: 11}},
		{api.Instr{Format: api.FMem, U: true, A: 2, B: 3, N: 4}, api.Access{Kind: api.StoreWord, Addr: 12, Value: 0x12345678}},
		{api.Instr{Format: api.FMem, U: true, V: true, A: 2, B: 3, N: 4}, api.Access{Kind: api.StoreByte, Addr: 12, Value: 0x78}},
		{api.Instr{Format: api.FMem, U: true, V: true, A: 4, B: 4, N: 1}, api.Access{Kind: api.StoreByte, Addr: 0, Value: 0xFF}},
		{api.Instr{Format: api.FMem, A: 2, B: 4, N: 524287}, api.Access{Kind: api.LoadWord, Addr: 524286}},
		{api.Instr{Format: api.FMem, A: 2, B: 3, N: -524288}, api.Access{Kind: api.LoadWord, Addr: 0xFFF80008}},
		{api.Instr{Format: api.FReg, Op: api.ADD, A: 2, B: 3, C: 2}, api.Access{}},
		{api.Instr{Format: api.FImm, Op: api.ADD, A: 2, B: 3, N: 4}, api.Access{}},
		{api.Instr{Format: api.FBranch, U: true, A: 7, N: 4}, api.Access{}},
		{api.Instr{Format: api.FMem, A: 2, B: 3, N: 524288}, api.Access{}},
		{api.Instr{Format: api.FMem, A: 2, B: 3, C: 1}, api.Access{}},
		{api.Instr{Format: api.FMem, A: 2, B: 16}, api.Access{}},
		{api.Instr{Format: api.FMem, A: -1, B: 3}, api.Access{}},
		{api.Instr{Format: api.FMem, A: 2, B: 3, Op: 1}, api.Access{}},
	} {
		if a := Access(c, x.i); a != x.want {
			t.Errorf("Access(%+v) = %+v", x.i, a)
		}
	}
}

func TestAccessHangsOnItsTwoRegistersAlone(t *testing.T) { // P2.2
	for _, x := range wordExamples {
		c := api.Cpu{PC: 12}
		for k := range c.R {
			c.R[k] = uint32(k) * 0x01010101
		}
		want := Access(c, x.i)
		d := c
		for k := range d.R {
			if k != x.i.A && k != x.i.B {
				d.R[k] = ^d.R[k]
			}
		}
		d.H, d.N, d.Z, d.C, d.V, d.PC = 1, true, true, true, true, 99
		if got := Access(d, x.i); got != want {
			t.Errorf("Access(%+v): %+v, %+v", x.i, got, want)
		}
	}
}
