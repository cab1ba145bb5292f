package gen

import (
	"math/bits"

	"carrel/api"
)

// place is where a variable is. All but those in a register are known without any instruction, and stay where they are.
type place struct {
	kind int
	m, n int
	off  int // bytes behind what the kind says
}

// Kinds of places.
const (
	inFrame    = iota // at off of the frame
	byFrame           // behind the address that stands at n of the frame
	inModule          // in the variable n of module m
	inString          // in the string n
	inRegister        // behind the address in register n
)

// next is the first register from r on that a place leaves free.
func (p place) next(r int) int {
	if p.kind == inRegister {
		return max(r, p.n+1)
	}
	return r
}

// place finds a variable; what must be reckoned for it is in register r.
func (g *maker) place(x *api.Expr, r int) place {
	g.enter()
	defer g.leave()
	switch x.Op {
	case api.EStr:
		return place{kind: inString, n: int(x.N)}
	case api.EGlobal:
		return place{kind: inModule, m: x.M, n: int(x.N)}
	case api.ELocal:
		v := g.now.vars[x.N]
		if v.far {
			return place{kind: byFrame, n: v.off}
		}
		return place{kind: inFrame, off: v.off}
	case api.EField:
		p := g.place(&x.Kids[0], r)
		p.off += int(x.N)
		return p
	case api.EIndex:
		return g.element(x, r)
	case api.EDeref:
		g.tested(&x.Kids[0], r)
		g.trapIf(zero, api.TrapNil)
		return place{kind: inRegister, n: r}
	}
	panic(api.ErrGenForm)
}

// element finds an array's.
func (g *maker) element(x *api.Expr, r int) place {
	array, index := &x.Kids[0], &x.Kids[1]
	size := g.mod.Types[x.Type].Size
	p := g.place(array, r)
	if n, ok := literal(index); ok && g.form(array.Type) == api.Array { // check has held it against the length
		p.off += int(n) * size
		return p
	}
	behind := func(r int) { g.index(array, index, size, r) }
	if p.kind == inRegister {
		a, b := g.beside(r, behind)
		g.operate(api.ADD, r, a, b)
		return place{kind: inRegister, n: r, off: p.off}
	}
	behind(r)
	base, off := g.base(p, scratch)
	g.operate(api.ADD, r, r, base)
	return place{kind: inRegister, n: r, off: off}
}

// index reckons how far behind an array's beginning an element is.
func (g *maker) index(array, index *api.Expr, size, r int) {
	g.value(index, r)
	if t := g.mod.Types[array.Type]; t.Form == api.Array {
		g.operateWith(api.SUB, scratch, r, uint32(t.Len))
	} else {
		g.length(array, scratch)
		g.operate(api.SUB, scratch, r, scratch)
	}
	g.trapIf(noCarry, api.TrapIndex) // without a sign what is below 0 is above all lengths
	switch {
	case size == 1:
	case bits.OnesCount(uint(size)) == 1:
		g.operateWith(api.LSL, r, r, uint32(bits.TrailingZeros(uint(size))))
	default:
		g.operateWith(api.MUL, r, r, uint32(size))
	}
}

// length is how many elements an array has, or an argument for one; of a string its bytes and the 0X.
func (g *maker) length(x *api.Expr, r int) {
	switch t := g.mod.Types[x.Type]; t.Form {
	case api.Array:
		g.constant(r, uint32(t.Len))
	case api.String:
		g.constant(r, uint32(len(g.mod.Strings[x.N])+1))
	default: // an Open is a parameter as a whole
		must(x.Op == api.ELocal && t.Form == api.Open)
		g.load(api.Integer, r, stack, g.pushed+g.now.vars[x.N].off+wordBytes)
	}
}

// base is a register, and how far behind what it has a place is; r, if there must be one for it.
func (g *maker) base(p place, r int) (int, int) {
	switch p.kind {
	case inFrame:
		return stack, g.pushed + p.off
	case byFrame:
		g.load(api.Integer, r, stack, g.pushed+p.n)
	case inModule:
		g.reference(r, api.Fix{Kind: api.FixVar, M: p.m, N: p.n})
	case inString:
		g.reference(r, api.Fix{Kind: api.FixStr, M: ownModule, N: p.n})
	case inRegister:
		return p.n, p.off
	}
	return r, p.off
}

// address reckons a place's.
func (g *maker) address(p place, r int) {
	base, off := g.base(p, r)
	switch {
	case off != 0:
		g.operateWith(api.ADD, r, base, uint32(off))
	case base != r:
		g.move(r, base)
	}
}

// fetch loads what a variable of some form has.
func (g *maker) fetch(p place, form, r int) {
	base, off := g.base(p, r)
	g.load(form, r, base, off)
}

// lay stores it.
func (g *maker) lay(p place, form, r int) {
	base, off := g.base(p, scratch)
	g.store(form, r, base, off)
}
