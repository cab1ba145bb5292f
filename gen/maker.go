package gen

import (
	"carrel/api"
	"carrel/cpu"
	"carrel/types"
)

// Registers. Expressions are reckoned in R0 to lastFree, each value in the lowest one that is free; R13 is never touched.
const (
	lastFree = 10
	second   = 11 // takes up again what was laid on the stack, for one operation
	scratch  = 12 // holds nothing from one thing that is made to the next
	stack    = 14
	link     = 15
)

// Conditions of branches. With opposite each says the contrary.
const (
	negative = 0
	zero     = 1
	carry    = 2
	less     = 5
	notAbove = 6
	always   = 7
	opposite = 8

	notNegative = negative ^ opposite
	notZero     = zero ^ opposite
	noCarry     = carry ^ opposite
	notLess     = less ^ opposite
	above       = notAbove ^ opposite
)

const wordBytes = 4

// maker makes a module's code.
type maker struct {
	mod      *api.Mod
	code     []uint32
	fixes    []api.Fix
	traps    [api.TrapStack + 1][]int // the branches to each
	routines [manyRoutines][]int      // the calls of each
	standard [api.StdCall + 1]standardCode
	aligns   map[int]int
	now      frame // of the procedure whose code is made
	pushed   int   // how many bytes lie on the stack below that frame
	depth    int
	seen     int
}

func newMaker(m *api.Mod) *maker {
	return &maker{mod: m, standard: standards(), aligns: map[int]int{}}
}

// Both are more than any module needs that check answers, as its tree has at most MaxNodes parts; others may have parts within themselves.
const (
	mostDeep = 1 << 16
	mostSeen = 1 << 20
)

func (g *maker) enter() {
	g.depth++
	must(g.depth <= mostDeep)
	g.see(1)
}

func (g *maker) leave() { g.depth-- }

// see counts parts that are looked at.
func (g *maker) see(parts int) {
	g.seen += parts
	must(g.seen <= mostSeen)
}

func (g *maker) form(t int) int { return g.mod.Types[t].Form }

// align is a type's alignment, which is asked for once, as that reads the whole row.
func (g *maker) align(t int) int {
	n, ok := g.aligns[t]
	if !ok {
		n = types.Align(g.mod.Types, t)
		must(n > 0)
		g.aligns[t] = n
	}
	return n
}

func encoded(i api.Instr) uint32 {
	w, e := cpu.Encode(i)
	must(e == api.OK)
	return w
}

// emit lays an instruction behind all others; where there is no room left, the code is given up.
func (g *maker) emit(i api.Instr) {
	if len(g.code) == api.MaxCode {
		panic(api.ErrGenLong)
	}
	g.code = append(g.code, encoded(i))
}

// operate is an operation of two registers.
func (g *maker) operate(op, a, b, c int) {
	g.emit(api.Instr{Format: api.FReg, Op: op, A: a, B: b, C: c})
}

func (g *maker) move(a, c int) { g.operate(api.MOV, a, 0, c) }

const (
	halfBits = 16
	halfOnes = 1<<halfBits - 1
	allOnes  = 1<<32 - 1
)

// operateWith is an operation of a register and a constant, which stands in the instruction, if it fits.
func (g *maker) operateWith(op, a, b int, n uint32) {
	upper := n >> halfBits
	if upper != 0 && upper != halfOnes {
		g.constant(scratch, n)
		g.operate(op, a, b, scratch)
		return
	}
	g.emit(api.Instr{Format: api.FImm, V: upper != 0, Op: op, A: a, B: b, N: int(n & halfOnes)})
}

func (g *maker) constant(r int, n uint32) {
	if upper := n >> halfBits; upper == 0 || upper == halfOnes {
		g.operateWith(api.MOV, r, 0, n)
		return
	}
	g.halves(r, n)
}

// halves are the two instructions that any word may be made by, and that a linker asks for where it fills in an address.
func (g *maker) halves(r int, n uint32) {
	g.emit(api.Instr{Format: api.FImm, U: true, Op: api.MOV, A: r, N: int(n >> halfBits)})
	g.emit(api.Instr{Format: api.FImm, Op: api.IOR, A: r, B: r, N: int(n & halfOnes)})
}

// reference is an address that the linker fills in.
func (g *maker) reference(r int, f api.Fix) {
	g.fix(f)
	g.halves(r, 0)
}

const ownModule = -1

// fix asks the linker to fill in what comes next. (Symbols that no module shows may have more things than a fix can name. As there is nothing to link with these, it makes no difference which one is named.)
func (g *maker) fix(f api.Fix) {
	if f.M != ownModule {
		most := api.MaxProcs
		if f.Kind == api.FixVar {
			most = api.MaxVars
		}
		f.N = min(f.N, most-1)
	}
	f.At = len(g.code)
	g.fixes = append(g.fixes, f)
}

// isByte: do things of a form have one byte?
func isByte(form int) bool {
	return form == api.Boolean || form == api.Char || form == api.Byte
}

// load takes a word, or a byte, as its form says.
func (g *maker) load(form, r, base, off int) {
	g.emit(api.Instr{Format: api.FMem, V: isByte(form), A: r, B: base, N: off})
}

func (g *maker) store(form, r, base, off int) {
	g.emit(api.Instr{Format: api.FMem, U: true, V: isByte(form), A: r, B: base, N: off})
}

// jump is a branch that is told later where it goes on: by land, with its place.
func (g *maker) jump(condition int) int {
	g.emit(api.Instr{Format: api.FBranch, U: true, A: condition})
	return len(g.code) - 1
}

// callAhead is likewise a branch with link.
func (g *maker) callAhead() int {
	g.emit(api.Instr{Format: api.FBranch, U: true, V: true, A: always})
	return len(g.code) - 1
}

// land makes branches go on here.
func (g *maker) land(from ...int) { g.landAt(len(g.code), from) }

func (g *maker) landAt(to int, from []int) {
	for _, at := range from {
		i, _ := cpu.Decode(g.code[at])
		i.N = to - at - 1
		g.code[at] = encoded(i)
	}
}

// jumpBack is a branch to what was made already.
func (g *maker) jumpBack(condition, to int) {
	g.landAt(to, []int{g.jump(condition)})
}

// goBack is a branch to where the link says.
func (g *maker) goBack() {
	g.emit(api.Instr{Format: api.FBranch, A: always, C: link})
}

func (g *maker) trap(number int) {
	g.emit(api.Instr{Format: api.FImm, Op: api.TRAP, N: number})
}

func (g *maker) trapIf(condition, number int) {
	g.trapFrom(number, g.jump(condition))
}

func (g *maker) trapFrom(number int, branches ...int) {
	g.traps[number] = append(g.traps[number], branches...)
}

// finish makes what stands behind all other code: the routines, and one instruction for each trap, that something branches to.
func (g *maker) finish() {
	for routine, from := range g.routines {
		if len(from) > 0 {
			g.land(from...)
			g.routine(routine)
		}
	}
	for number, from := range g.traps {
		if len(from) > 0 {
			g.land(from...)
			g.trap(number)
		}
	}
}

// grow makes room on the stack, shrink gives it back.
func (g *maker) grow(bytes int) {
	if bytes > 0 {
		g.operateWith(api.SUB, stack, stack, uint32(bytes))
		g.pushed += bytes
	}
}

func (g *maker) shrink(bytes int) {
	if bytes > 0 {
		g.operateWith(api.ADD, stack, stack, uint32(bytes))
		g.pushed -= bytes
	}
}

func (g *maker) push(r int) {
	g.grow(wordBytes)
	g.store(api.Integer, r, stack, 0)
}

func (g *maker) pop(r int) {
	g.load(api.Integer, r, stack, 0)
	g.shrink(wordBytes)
}

// beside makes what reckons one thing more while register r has another; in which registers the two are then.
func (g *maker) beside(r int, more func(r int)) (int, int) {
	if r < lastFree {
		more(r + 1)
		return r, r + 1
	}
	g.push(r)
	more(r)
	g.pop(second)
	return second, r
}
