package gen

import "carrel/api"

const setBits = 32

// set reckons a SET of elements; those that are constant are there from the beginning.
func (g *maker) set(elements []api.Expr, r int) {
	g.see(len(elements))
	var known uint32
	for i := range elements {
		known |= knownBits(&elements[i])
	}
	g.constant(r, known)
	for i := range elements {
		x := &elements[i]
		if isKnown(x) {
			continue
		}
		a, b := g.beside(r, func(r int) { g.bits(x, r) })
		g.operate(api.IOR, r, a, b)
	}
}

// isKnown: are all of an element's Kids constant?
func isKnown(x *api.Expr) bool {
	for i := range x.Kids {
		if _, ok := literal(&x.Kids[i]); !ok {
			return false
		}
	}
	return true
}

func knownBits(x *api.Expr) uint32 {
	if !isKnown(x) {
		return 0
	}
	var known uint32
	first, last := x.Kids[0].N, x.Kids[len(x.Kids)-1].N
	for n := range int64(setBits) {
		if first <= n && n <= last {
			known |= 1 << n
		}
	}
	return known
}

// bits reckons those of an element that is not constant.
func (g *maker) bits(x *api.Expr, r int) {
	g.elementNumber(&x.Kids[0], r)
	if x.Op == api.ESingle {
		g.constant(scratch, 1)
		g.operate(api.LSL, r, scratch, r)
		return
	}
	first, last := g.beside(r, func(r int) { g.elementNumber(&x.Kids[1], r) })
	g.shifted(first, allOnes)  // all from the first one on
	g.shifted(last, allOnes-1) // all behind the last one
	g.operate(api.ANN, r, first, last)
}

// shifted is a constant moved up by what a register has.
func (g *maker) shifted(r int, n uint32) {
	g.constant(scratch, n)
	g.operate(api.LSL, r, scratch, r)
}

// elementNumber is a number that a SET may have; check has held the constant ones against that.
func (g *maker) elementNumber(x *api.Expr, r int) {
	g.value(x, r)
	if _, ok := literal(x); !ok {
		g.mustBeElement(r)
	}
}

func (g *maker) mustBeElement(r int) { g.mustBeBelow(r, setBits) }

// mustBeBelow traps, unless a number is from 0 to one less than the end.
func (g *maker) mustBeBelow(r int, end uint32) {
	g.operateWith(api.SUB, scratch, r, end)
	g.trapIf(noCarry, api.TrapRange)
}

// in unsets Z, if a number is in a SET.
func (g *maker) in(kids []api.Expr, r int) {
	if n, ok := literal(&kids[0]); ok && n < setBits {
		g.value(&kids[1], r)
		g.operateWith(api.AND, scratch, r, 1<<n)
		return
	}
	g.value(&kids[0], r)
	number, set := g.beside(r, func(r int) { g.value(&kids[1], r) })
	g.mustBeElement(number)
	g.operate(api.ROR, scratch, set, number)
	g.operateWith(api.AND, scratch, scratch, 1)
}
