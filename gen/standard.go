package gen

import "carrel/api"

// standardCode makes what a standard function or procedure is: a function's result in register r.
type standardCode func(g *maker, kids []api.Expr, r int)

// standards are all of them, by their numbers.
func standards() [api.StdCall + 1]standardCode {
	return [...]standardCode{
		api.StdAbs:    (*maker).abs,
		api.StdOdd:    (*maker).odd,
		api.StdLen:    (*maker).lenOf,
		api.StdLsl:    shift(api.LSL),
		api.StdAsr:    shift(api.ASR),
		api.StdRor:    shift(api.ROR),
		api.StdOrd:    (*maker).ord,
		api.StdChr:    (*maker).chr,
		api.StdInc:    step(api.ADD),
		api.StdDec:    step(api.SUB),
		api.StdIncl:   change(api.IOR),
		api.StdExcl:   change(api.ANN),
		api.StdNew:    (*maker).newRecord,
		api.StdAssert: (*maker).assert,
		api.StdEmit:   (*maker).emitByte,
		api.StdTake:   (*maker).takeByte,
		api.StdHalt:   (*maker).halt,
		api.StdAdr:    (*maker).adr,
		api.StdGet:    (*maker).get,
		api.StdPut:    (*maker).put,
		api.StdCall:   (*maker).callAt,
	}
}

func (g *maker) abs(kids []api.Expr, r int) {
	g.tested(&kids[0], r)
	is := g.jump(notNegative)
	g.negate(r)
	g.land(is)
}

func (g *maker) odd(kids []api.Expr, r int) {
	g.value(&kids[0], r)
	g.operateWith(api.AND, r, r, 1)
}

func (g *maker) lenOf(kids []api.Expr, r int) { g.length(&kids[0], r) }

func shift(op int) standardCode {
	return func(g *maker, kids []api.Expr, r int) { g.binary(op, kids, r) }
}

func (g *maker) ord(kids []api.Expr, r int) { g.value(&kids[0], r) }

const mostChars = 256

func (g *maker) chr(kids []api.Expr, r int) {
	g.value(&kids[0], r)
	g.mustBeBelow(r, mostChars)
}

// step is INC or DEC.
func step(op int) standardCode {
	return func(g *maker, kids []api.Expr, r int) {
		p := g.place(&kids[0], r)
		n, known := uint32(1), true
		if len(kids) > 1 {
			n, known = literal(&kids[1])
		}
		if known {
			g.update(p, r, func(r int) { g.operateWith(op, r, r, n) })
			return
		}
		by := p.next(r)
		g.value(&kids[1], by)
		g.update(p, by+1, func(r int) { g.operate(op, r, r, by) })
	}
}

// change is INCL or EXCL.
func change(op int) standardCode {
	return func(g *maker, kids []api.Expr, r int) {
		p := g.place(&kids[0], r)
		if n, ok := literal(&kids[1]); ok {
			g.update(p, r, func(r int) { g.operateWith(op, r, r, 1<<n) })
			return
		}
		bit := p.next(r)
		g.value(&kids[1], bit)
		g.mustBeElement(bit)
		g.shifted(bit, 1)
		g.update(p, bit+1, func(r int) { g.operate(op, r, r, bit) })
	}
}

// update changes the word that a variable has, with registers from r on.
func (g *maker) update(p place, r int, how func(r int)) {
	r = p.next(r)
	base, off := g.base(p, r)
	g.load(api.Integer, r+1, base, off)
	how(r + 1)
	g.store(api.Integer, r+1, base, off)
}

func (g *maker) newRecord(kids []api.Expr, r int) {
	p := g.place(&kids[0], r)
	record := g.mod.Types[kids[0].Type].Elem
	must(g.form(record) == api.Record)
	g.constant(newSize, uint32(g.mod.Types[record].Size+wordBytes))
	g.descriptor(newDesc, record)
	g.use(makeRecord)
	g.lay(p, api.Pointer, newPlace)
}

func (g *maker) assert(kids []api.Expr, r int) {
	g.trapFrom(api.TrapAssert, g.branch(&kids[0], false, r)...)
}

// ioData is the address where bytes go out and come in, as an offset from 0.
const ioData = int(api.IOData) - 1<<32

func (g *maker) emitByte(kids []api.Expr, r int) {
	g.value(&kids[0], r)
	g.constant(scratch, 0)
	g.store(api.Integer, r, scratch, ioData)
}

func (g *maker) takeByte(kids []api.Expr, r int) {
	p := g.place(&kids[0], r)
	r = p.next(r)
	g.constant(r, 0)
	g.load(api.Integer, r, r, ioData)
	g.lay(p, api.Char, r)
}

func (g *maker) halt([]api.Expr, int) { g.trap(api.TrapHalt) }

func (g *maker) adr(kids []api.Expr, r int) { g.address(g.place(&kids[0], r), r) }

func (g *maker) get(kids []api.Expr, r int) {
	g.value(&kids[0], r)
	p := g.place(&kids[1], r+1)
	form := g.form(kids[1].Type)
	g.load(form, r, r, 0)
	g.lay(p, form, r)
}

func (g *maker) put(kids []api.Expr, r int) {
	g.value(&kids[0], r)
	g.value(&kids[1], r+1)
	g.store(g.form(kids[1].Type), r+1, r, 0)
}

// callAt calls what stands at an address.
func (g *maker) callAt(kids []api.Expr, r int) {
	g.value(&kids[0], r)
	g.emit(api.Instr{Format: api.FBranch, V: true, A: always, C: r})
}
