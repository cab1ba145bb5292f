package gen

import "carrel/api"

// operations are those of the processor that expressions with two Kids are made of.
var operations = [...]int{
	api.EAdd:   api.ADD,
	api.ESub:   api.SUB,
	api.EMul:   api.MUL,
	api.EDiv:   api.DIV,
	api.EMod:   api.DIV,
	api.EUnion: api.IOR,
	api.EMinus: api.ANN,
	api.EInter: api.AND,
	api.ESym:   api.XOR,
}

// literal is the word of an expression that is one.
func literal(x *api.Expr) (uint32, bool) {
	return uint32(x.N), x.Op == api.ELit
}

// isVariable: is it one, so that its value is loaded?
func isVariable(op int) bool {
	switch op {
	case api.EGlobal, api.ELocal, api.EField, api.EIndex, api.EDeref:
		return true
	}
	return false
}

// value reckons an expression's into register r. What those below r have stays.
func (g *maker) value(x *api.Expr, r int) {
	g.enter()
	switch x.Op {
	case api.ELit:
		g.constant(r, uint32(x.N))
	case api.EGlobal, api.ELocal, api.EField, api.EIndex, api.EDeref:
		g.fetch(g.place(x, r), g.form(x.Type), r)
	case api.EGuard:
		g.guard(x, r)
	case api.ENeg, api.ECompl:
		g.unary(x, r)
	case api.EAdd, api.ESub, api.EMul, api.EDiv, api.EMod, api.EUnion, api.EMinus, api.EInter, api.ESym:
		g.binary(operations[x.Op], x.Kids, r)
		if x.Op == api.EMod {
			g.emit(api.Instr{Format: api.FReg, U: true, Op: api.MOV, A: r}) // the rest, from H
		}
	case api.ENot, api.EAnd, api.EOr, api.EEq, api.ENe, api.ELt, api.ELe, api.EGt, api.EGe, api.EIn, api.EIs:
		g.truth(x, r)
	case api.ESet:
		g.set(x.Kids, r)
	case api.ECall:
		g.call(x, r)
	case api.EStd:
		g.standard[x.N](g, x.Kids, r)
	default:
		panic(api.ErrGenForm)
	}
	g.leave()
}

// tested is a value, behind which N and Z are set by it.
func (g *maker) tested(x *api.Expr, r int) {
	g.value(x, r)
	if !isVariable(x.Op) { // a variable's is loaded last of all, which sets them
		g.operateWith(api.SUB, scratch, r, 0)
	}
}

func (g *maker) unary(x *api.Expr, r int) {
	g.value(&x.Kids[0], r)
	if x.Op == api.ECompl {
		g.operateWith(api.XOR, r, r, allOnes)
		return
	}
	g.negate(r)
}

func (g *maker) negate(r int) {
	g.constant(scratch, 0)
	g.operate(api.SUB, r, scratch, r)
}

func (g *maker) binary(op int, kids []api.Expr, r int) {
	g.value(&kids[0], r)
	if n, ok := literal(&kids[1]); ok {
		g.operateWith(op, r, r, n)
		return
	}
	a, b := g.beside(r, func(r int) { g.value(&kids[1], r) })
	g.operate(op, r, a, b)
}

// guard is a pointer's value, if it points to a record of a type.
func (g *maker) guard(x *api.Expr, r int) {
	g.tested(&x.Kids[0], r)
	g.trapIf(zero, api.TrapNil)
	g.compareType(r, x.Type)
	g.trapIf(notZero, api.TrapGuard)
}

// compareType sets Z, if a pointer that is not NIL points to a record that a pointer type asks for, or one that extends that: a descriptor tells of each level whom its record extends there.
func (g *maker) compareType(pointer, t int) {
	record := g.mod.Types[t].Elem
	g.load(api.Integer, second, pointer, -wordBytes)
	g.load(api.Integer, second, second, wordBytes*(1+g.mod.Types[record].Level))
	g.descriptor(scratch, record)
	g.operate(api.SUB, scratch, second, scratch)
}

// descriptor is the address of a Record's.
func (g *maker) descriptor(r, record int) {
	g.reference(r, api.Fix{Kind: api.FixDesc, M: ownModule, N: record})
}
