package gen

import "carrel/api"

// truth reckons a BOOLEAN that is found by branches.
func (g *maker) truth(x *api.Expr, r int) {
	no := g.branch(x, false, r)
	g.constant(r, 1)
	end := g.jump(always)
	g.land(no...)
	g.constant(r, 0)
	g.land(end)
}

// branch goes elsewhere, if a BOOLEAN is as asked for: by branches that are to land there. What it needs is from register r on.
func (g *maker) branch(x *api.Expr, when bool, r int) []int {
	g.enter()
	defer g.leave()
	switch x.Op {
	case api.ELit:
		if (x.N != 0) == when {
			return []int{g.jump(always)}
		}
		return nil
	case api.ENot:
		return g.branch(&x.Kids[0], !when, r)
	case api.EAnd, api.EOr:
		return g.branchOfTwo(x, when, r)
	case api.EEq, api.ENe, api.ELt, api.ELe, api.EGt, api.EGe:
		return []int{g.jump(holds(g.compare(x, r), when))}
	case api.EIn:
		g.in(x.Kids, r)
		return []int{g.jump(holds(notZero, when))}
	case api.EIs:
		return g.branchOfType(x, when, r)
	}
	g.tested(x, r)
	return []int{g.jump(holds(notZero, when))}
}

// holds is a condition, or its contrary.
func holds(condition int, when bool) int {
	if when {
		return condition
	}
	return condition ^ opposite
}

// branchOfTwo asks the second Kid only if the first one does not tell.
func (g *maker) branchOfTwo(x *api.Expr, when bool, r int) []int {
	tells := x.Op == api.EOr
	first := g.branch(&x.Kids[0], tells, r)
	rest := g.branch(&x.Kids[1], when, r)
	if when == tells {
		return append(first, rest...)
	}
	g.land(first...)
	return rest
}

func (g *maker) branchOfType(x *api.Expr, when bool, r int) []int {
	g.tested(&x.Kids[0], r)
	none := g.jump(zero)
	g.compareType(r, int(x.N))
	is := g.jump(holds(zero, when))
	if !when {
		return []int{none, is}
	}
	g.land(none)
	return []int{is}
}

// compare sets the flags by two values: the condition that the comparison holds by.
func (g *maker) compare(x *api.Expr, r int) int {
	g.value(&x.Kids[0], r)
	if n, ok := literal(&x.Kids[1]); ok {
		g.operateWith(api.SUB, scratch, r, n)
	} else {
		a, b := g.beside(r, func(r int) { g.value(&x.Kids[1], r) })
		g.operate(api.SUB, scratch, a, b)
	}
	switch x.Op {
	case api.EEq:
		return zero
	case api.ENe:
		return notZero
	case api.ELt:
		return less
	case api.ELe:
		return notAbove
	case api.EGt:
		return above
	}
	return notLess
}
