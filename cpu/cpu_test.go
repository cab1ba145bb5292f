package cpu

import (
	"math"
	"math/big"
	"testing"

	"carrel/api"
)

// edges are the words about which carries, signs, shifts and halves turn.
var edges = []uint32{
	0, 1, 2, 3, 31, 32, 33, 0x7FFF, 0x8000, 0xFFFF, 0x10000, 0x12345678, 0x7FFFFFFF,
	0x80000000, 0x80000001, 0x89ABCDEF, 0xFFFF0000, 0xFFFFFFF9, 0xFFFFFFFE, 0xFFFFFFFF,
}

func bare(w uint32) *big.Int { return new(big.Int).SetUint64(uint64(w)) }

func signed(w uint32) *big.Int {
	n := bare(w)
	if w >= 1<<31 {
		n.Sub(n, power(32))
	}
	return n
}

func power(n uint) *big.Int { return new(big.Int).Lsh(big.NewInt(1), n) }

// half is a whole number's 32 bits from bit at on.
func half(n *big.Int, at uint) uint32 {
	down := new(big.Int).Div(n, power(at)) // Euclid's: downwards, for power is above 0
	return uint32(down.Mod(down, power(32)).Uint64())
}

func within(n, low, high *big.Int) bool { return n.Cmp(low) >= 0 && n.Cmp(high) < 0 }

// turned goes bit by bit: bit k of the answer is what from tells of k.
func turned(from func(k uint32) bool) uint32 {
	var w uint32
	for k := range uint32(32) {
		if from(k) {
			w |= 1 << k
		}
	}
	return w
}

func has(w, k uint32) bool { return w>>k&1 == 1 }

// reference does a right FReg or FImm by whole numbers without bounds and by single bits.
func reference(c api.Cpu, i api.Instr) (api.Cpu, int, bool) {
	b, x, d := c.R[i.B], uint32(i.N), c
	if i.Format == api.FReg {
		x = c.R[i.C]
	} else if i.V {
		x += 0xFFFF0000
	}
	by := x % 32
	var a uint32
	switch i.Op {
	case api.MOV:
		a = referenceMov(c, i, x)
	case api.LSL:
		a = turned(func(k uint32) bool { return k >= by && has(b, k-by) })
	case api.ASR:
		a = turned(func(k uint32) bool { return has(b, min(k+by, 31)) })
	case api.ROR:
		a = turned(func(k uint32) bool { return has(b, (k+by)%32) })
	case api.AND:
		a = turned(func(k uint32) bool { return has(b, k) && has(x, k) })
	case api.ANN:
		a = turned(func(k uint32) bool { return has(b, k) && !has(x, k) })
	case api.IOR:
		a = turned(func(k uint32) bool { return has(b, k) || has(x, k) })
	case api.XOR:
		a = turned(func(k uint32) bool { return has(b, k) != has(x, k) })
	case api.ADD, api.SUB:
		a, d.C, d.V = referenceSum(b, x, i.Op == api.SUB, i.U && c.C)
	case api.MUL:
		product := new(big.Int).Mul(signed(b), signed(x))
		if i.U {
			product.Mul(bare(b), bare(x))
		}
		a, d.H = half(product, 0), half(product, 32)
	case api.DIV:
		if signed(x).Sign() <= 0 {
			return c, 6, true
		}
		q, r := new(big.Int).DivMod(signed(b), signed(x), new(big.Int))
		a, d.H = half(q, 0), half(r, 0)
	default:
		return c, i.N, true
	}
	d.R[i.A] = a
	d.N, d.Z = a >= 1<<31, a == 0
	d.PC += 4
	return d, 0, false
}

func referenceMov(c api.Cpu, i api.Instr, x uint32) uint32 {
	if !i.U {
		return x
	}
	if i.Format == api.FImm {
		return uint32(i.N) * 65536
	}
	if !i.V {
		return c.H
	}
	at := map[uint32]bool{31: c.N, 30: c.Z, 29: c.C, 28: c.V}
	return turned(func(k uint32) bool { return at[k] })
}

func referenceSum(b, x uint32, less, one bool) (uint32, bool, bool) {
	more := new(big.Int)
	if one {
		more.SetInt64(1)
	}
	together := func(p, q *big.Int) *big.Int {
		q = new(big.Int).Add(q, more)
		if less {
			q.Neg(q)
		}
		return q.Add(p, q)
	}
	n, s := together(bare(b), bare(x)), together(signed(b), signed(x))
	return half(n, 0), !within(n, new(big.Int), power(32)), !within(s, new(big.Int).Neg(power(31)), power(31))
}

// allFlags are processors with each of the four bits set and not, and something in all else.
func allFlags() []api.Cpu {
	var out []api.Cpu
	for k := range 16 {
		c := api.Cpu{N: k&8 > 0, Z: k&4 > 0, C: k&2 > 0, V: k&1 > 0, H: 0xCAFE0000 + uint32(k), PC: 100}
		for r := range c.R {
			c.R[r] = 0x1000001 * uint32(r)
		}
		out = append(out, c)
	}
	return out
}

func TestExecExamples(t *testing.T) { // P2.3
	minus := func(n uint32) uint32 { return -n }
	for _, x := range []struct {
		name string
		i    api.Instr
		b, c uint32 // R2, R3
		a, h uint32
		bits string
	}{
		{"ADD", api.Instr{Op: api.ADD}, 0x7FFFFFFF, 1, 0x80000000, 9, "NV"},
		{"SUB", api.Instr{Op: api.SUB}, 0, 1, 0xFFFFFFFF, 9, "NC"},
		{"MUL", api.Instr{Op: api.MUL}, 0xFFFFFFFF, 2, 0xFFFFFFFE, 0xFFFFFFFF, "N"},
		{"MUL'", api.Instr{Op: api.MUL, U: true}, 0xFFFFFFFF, 2, 0xFFFFFFFE, 1, "N"},
		{"DIV", api.Instr{Op: api.DIV}, minus(7), 2, minus(4), 1, "N"},
	} {
		x.i.A, x.i.B, x.i.C = 1, 2, 3
		c := api.Cpu{PC: 200, H: 9}
		c.R[1], c.R[2], c.R[3] = 77, x.b, x.c
		want := c
		want.R[1], want.H, want.PC = x.a, x.h, 204
		for _, bit := range x.bits {
			*map[rune]*bool{'N': &want.N, 'C': &want.C, 'V': &want.V}[bit] = true
		}
		if d, n, traps := Exec(c, x.i, 5); d != want || n != 0 || traps {
			t.Errorf("%s: %+v, %d, %v", x.name, d, n, traps)
		}
	}
	c := api.Cpu{PC: 200, H: 9, C: true, Z: true}
	c.R[2] = minus(7)
	if d, n, traps := Exec(c, api.Instr{Op: api.DIV, A: 1, B: 2, C: 3}, 5); d != c || n != 6 || !traps {
		t.Errorf("DIV by 0: %+v, %d, %v", d, n, traps)
	}
}

// eachOperationInstr are a format's operations, with each U and V that they may have.
func eachOperationInstr(format int) []api.Instr {
	var out []api.Instr
	for op := range 16 {
		for way := range 4 {
			i := api.Instr{Format: format, Op: op, U: way > 1, V: way%2 == 1}
			if rightByChapter(i) {
				out = append(out, i)
			}
		}
	}
	return out
}

func check(t *testing.T, c api.Cpu, i api.Instr) {
	want, number, trapped := reference(c, i)
	for _, loaded := range []uint32{0, 0xDEADBEEF} { // which is not looked at
		if d, n, traps := Exec(c, i, loaded); d != want || n != number || traps != trapped {
			t.Fatalf("Exec(%+v, %+v) =\n%+v, %d, %v; want\n%+v, %d, %v", c, i, d, n, traps, want, number, trapped)
		}
	}
}

func TestOperationsOfRegisters(t *testing.T) { // P2.3, and what follows: all else stays
	forms := eachOperationInstr(api.FReg)
	if len(forms) != 17 { // 12 plain ones; u of MOV, ADD, SUB, MUL; MOV with both
		t.Fatalf("%d forms", len(forms))
	}
	for _, i := range forms {
		for k, c := range allFlags() {
			for _, b := range edges {
				for _, x := range edges {
					i.A = 1 + k%3 // among them the operands' own registers
					if i.Op != api.MOV {
						i.B = 2
					}
					if !(i.Op == api.MOV && i.U) {
						i.C = 3
					}
					c.R[2], c.R[3] = b, x
					check(t, c, i)
				}
			}
		}
	}
}

func TestOperationsOfNumbers(t *testing.T) { // P2.3
	forms := eachOperationInstr(api.FImm)
	if len(forms) != 32 { // 3 of MOV; 4 each of ADD, SUB, MUL; 2 each of 8 others; TRAP
		t.Fatalf("%d forms", len(forms))
	}
	for _, i := range forms {
		for k, c := range allFlags() {
			for _, b := range edges {
				for _, n := range []int{0, 1, 2, 31, 32, 33, 0x7FFF, 0x8000, 0xFFF9, 0xFFFE, 0xFFFF} {
					if i.Op != api.TRAP {
						i.A = 1 + k%2
					}
					if i.Op != api.TRAP && i.Op != api.MOV {
						i.B = 2
					}
					i.N = n
					c.R[2] = b
					check(t, c, i)
				}
			}
		}
	}
}

// One register may stand in all three places: the operands are those ahead of the writing.
func TestOneRegisterThrice(t *testing.T) { // P2.3
	for _, i := range eachOperationInstr(api.FReg) {
		for r := range 16 {
			for _, w := range edges {
				i.A = r
				if i.Op != api.MOV {
					i.B = r
				}
				if !(i.Op == api.MOV && i.U) {
					i.C = r
				}
				c := api.Cpu{PC: 0xFFFFFFFC, H: 7, C: true}
				c.R[r] = w
				check(t, c, i)
			}
		}
	}
}

// A register, H or a flag that differs behind an instruction is one that the instruction may change.
func TestWhatInstructionsChange(t *testing.T) { // what follows
	for _, c := range allFlags() {
		for i := range eachInstr {
			d, _, _ := Exec(c, i, 0x80)
			writes := i.A
			if i.Format == api.FBranch {
				writes = 15
			}
			for r := range d.R {
				if d.R[r] != c.R[r] && (r != writes || i.Format == api.FMem && i.U || i.Format == api.FBranch && !i.V) {
					t.Fatalf("%+v changes R%d", i, r)
				}
			}
			operation := i.Format == api.FReg || i.Format == api.FImm
			if d.H != c.H && !(operation && (i.Op == api.MUL || i.Op == api.DIV)) {
				t.Fatalf("%+v changes H", i)
			}
			if (d.C != c.C || d.V != c.V) && !(operation && (i.Op == api.ADD || i.Op == api.SUB)) {
				t.Fatalf("%+v changes C or V", i)
			}
			if (d.N != c.N || d.Z != c.Z) && !(operation || i.Format == api.FMem && !i.U) {
				t.Fatalf("%+v changes N or Z", i)
			}
		}
	}
}

func TestTraps(t *testing.T) { // P2.3
	for _, c := range allFlags() {
		for _, n := range []int{0, 1, 6, 9, 255, 65535} {
			if d, number, traps := Exec(c, api.Instr{Format: api.FImm, Op: api.TRAP, N: n}, 3); d != c || number != n || !traps {
				t.Errorf("TRAP %d: %+v, %d, %v", n, d, number, traps)
			}
		}
		for _, i := range []api.Instr{
			{Format: api.FImm, Op: api.DIV, A: 1, B: 2},
			{Format: api.FImm, Op: api.DIV, A: 1, B: 2, V: true, N: 65535},
			{Format: api.FImm, Op: api.DIV, A: 1, B: 2, V: true},
		} {
			if d, number, traps := Exec(c, i, 3); d != c || number != 6 || !traps {
				t.Errorf("%+v: %+v, %d, %v", i, d, number, traps)
			}
		}
	}
}

func TestLoads(t *testing.T) { // P2.3
	for _, c := range allFlags() {
		for _, loaded := range append(edges, 0x80, 0xFF, 0x100, 0xFFFFFF00) {
			for a := range 16 {
				word, want := api.Instr{Format: api.FMem, A: a, B: 3, N: -4}, c
				want.PC, want.R[a], want.N, want.Z = 104, loaded, loaded > math.MaxInt32, loaded == 0
				if d, n, traps := Exec(c, word, loaded); d != want || n != 0 || traps {
					t.Fatalf("load of %X into R%d: %+v", loaded, a, d)
				}
				one := word
				one.V = true
				low := loaded % 256
				want.R[a], want.N, want.Z = low, false, low == 0
				if d, n, traps := Exec(c, one, loaded); d != want || n != 0 || traps {
					t.Fatalf("load of the byte of %X into R%d: %+v", loaded, a, d)
				}
			}
		}
	}
}

func TestStoresChangeNothingButPC(t *testing.T) { // P2.3
	for _, c := range allFlags() {
		for _, v := range []bool{false, true} {
			c.PC = math.MaxUint32 - 3
			want := c
			want.PC = 0
			if d, n, traps := Exec(c, api.Instr{Format: api.FMem, U: true, V: v, A: 2, B: 3, N: 4}, 0); d != want || n != 0 || traps {
				t.Errorf("store: %+v", d)
			}
		}
	}
}

func TestBranchExamples(t *testing.T) { // P2.3
	for _, x := range []struct {
		w        uint32
		pc       uint32
		next, r5 uint32 // PC, R15
	}{
		{0xE7FFFFFF, 100, 100, 5},
		{0xF7000001, 100, 108, 104},
		{0xE7000000, 100, 104, 5},
		{0xC7000002, 100, 41, 5}, // R2 as it is, a multiple of 4 or not
		{0xD7000002, 100, 41, 104},
		{0xC700000F, 100, 5, 5},
		{0xD700000F, 100, 5, 104}, // R15 as it was ahead of the link
		{0xE7800000, 100, 0xFE000068, 5},
		{0xE77FFFFF, 100, 0x02000064, 5},
		{0xF7FFFFFE, 0, 0xFFFFFFFC, 4}, // round the end
		{0xF7000000, 0xFFFFFFFC, 0, 0},
		{0xEF000001, 100, 104, 5}, // never
		{0xFF000001, 100, 104, 5},
		{0xDF000002, 100, 104, 5},
		{0xCF000002, 0xFFFFFFFC, 0, 5},
	} {
		i, is := Decode(x.w)
		c := api.Cpu{PC: x.pc, H: 1}
		c.R[2], c.R[15] = 41, 5
		want := c
		want.PC, want.R[15] = x.next, x.r5
		if d, n, traps := Exec(c, i, 8); !is || d != want || n != 0 || traps {
			t.Errorf("%08X: PC %X, R15 %X", x.w, d.PC, d.R[15])
		}
	}
}

// holding tells of each condition, by N, Z, C, V as a number of four bits (N the highest), whether it holds: from 0000 on.
var holding = [16]string{
	"0000000011111111", // N
	"0000111100001111", // Z
	"0011001100110011", // C
	"0101010101010101", // V
	"0011111100111111", // C or Z
	"0101010110101010", // N is not V
	"0101111110101111", // N is not V, or Z
	"1111111111111111",
	"1111111100000000",
	"1111000011110000",
	"1100110011001100",
	"1010101010101010",
	"1100000011000000",
	"1010101001010101",
	"1010000001010000",
	"0000000000000000",
}

func TestHolds(t *testing.T) { // P2.4
	for k, c := range allFlags() {
		for cond := range 16 {
			if got := Holds(c, cond); got != (holding[cond][k] == '1') {
				t.Errorf("Holds(%04b, %d) = %v", k, cond, got)
			}
		}
		for _, cond := range []int{math.MinInt, -1 << 32, -16, -9, -8, -1, 16, 17, 23, 24, 1 << 32, math.MaxInt} {
			if Holds(c, cond) {
				t.Errorf("Holds(%04b, %d)", k, cond)
			}
		}
	}
}

func TestOneOfTwoConditionsHolds(t *testing.T) { // what follows
	for k, c := range allFlags() {
		for cond := range 8 {
			if Holds(c, cond) == Holds(c, cond+8) {
				t.Errorf("%04b: %d and %d", k, cond, cond+8)
			}
		}
	}
}

func TestBranchesByConditions(t *testing.T) { // P2.3, P2.4
	for k, c := range allFlags() {
		for cond := range 16 {
			for way := range 4 {
				i := api.Instr{Format: api.FBranch, U: way > 1, V: way%2 == 1, A: cond}
				want, target := c, c.R[9]
				if i.U {
					i.N, target = -10, 64
				} else {
					i.C = 9
				}
				want.PC = 104
				if holding[cond][k] == '1' {
					want.PC = target
					if i.V {
						want.R[15] = 104
					}
				}
				if d, n, traps := Exec(c, i, 8); d != want || n != 0 || traps {
					t.Errorf("%04b, %+v: %+v", k, i, d)
				}
			}
		}
	}
}
