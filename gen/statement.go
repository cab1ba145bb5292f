package gen

import "carrel/api"

func (g *maker) block(l []api.Stat) {
	g.enter()
	g.see(len(l))
	for i := range l {
		g.statement(&l[i])
	}
	g.leave()
}

// statement makes one, with all registers free.
func (g *maker) statement(s *api.Stat) {
	switch s.Op {
	case api.SAssign:
		g.assign(&s.Exprs[0], &s.Exprs[1])
	case api.SString:
		g.assignString(&s.Exprs[0], &s.Exprs[1])
	case api.SCall:
		g.value(&s.Exprs[0], 0)
	case api.SIf:
		g.choose(s)
	case api.SWhile:
		g.while(s)
	case api.SRepeat:
		again := len(g.code)
		g.block(s.Blocks[0])
		g.landAt(again, g.branch(&s.Exprs[0], false, 0))
	case api.SFor:
		g.count(s)
	default:
		panic(api.ErrGenForm)
	}
}

func (g *maker) assign(to, what *api.Expr) {
	form := g.form(to.Type)
	if form == api.Array || form == api.Record {
		g.assignWhole(to, what)
		return
	}
	p := g.place(to, 0)
	r := p.next(0)
	g.value(what, r)
	g.lay(p, form, r)
}

// assignWhole copies an Array or a Record: by words, where all such things stand at multiples of 4.
func (g *maker) assignWhole(to, what *api.Expr) {
	p := g.place(to, copyTo)
	from := g.place(what, copyFrom)
	size := g.mod.Types[to.Type].Size
	if size == 0 {
		return
	}
	g.address(p, copyTo)
	g.address(from, copyFrom)
	g.constant(copyCount, uint32(size))
	if g.align(to.Type) == wordBytes {
		g.use(copyWords)
		return
	}
	g.use(copyBytes)
}

func (g *maker) assignString(to, what *api.Expr) {
	p := g.place(to, copyTo)
	bytes := uint32(len(g.mod.Strings[what.N]) + 1)
	if g.form(to.Type) == api.Open {
		g.length(to, scratch)
		g.operateWith(api.SUB, scratch, scratch, bytes)
		g.trapIf(less, api.TrapCopy)
	}
	g.address(p, copyTo)
	g.address(g.place(what, copyFrom), copyFrom)
	g.constant(copyCount, bytes)
	g.use(copyBytes)
}

func (g *maker) choose(s *api.Stat) {
	var ends []int
	for i := range s.Exprs {
		next := g.branch(&s.Exprs[i], false, 0)
		g.block(s.Blocks[i])
		if i+1 < len(s.Blocks) {
			ends = append(ends, g.jump(always))
		}
		g.land(next...)
	}
	if len(s.Blocks) > len(s.Exprs) {
		g.block(s.Blocks[len(s.Exprs)])
	}
	g.land(ends...)
}

func (g *maker) while(s *api.Stat) {
	again := len(g.code)
	for i := range s.Exprs {
		next := g.branch(&s.Exprs[i], false, 0)
		g.block(s.Blocks[i])
		g.jumpBack(always, again)
		g.land(next...)
	}
}

// count makes a For. The number that it goes to is kept on the stack, unless it is constant.
func (g *maker) count(s *api.Stat) {
	v, to := &s.Exprs[0], &s.Exprs[2]
	g.value(&s.Exprs[1], 0)
	last, known := literal(to)
	if !known {
		g.value(to, 1)
		g.push(1)
	}
	again := len(g.code)
	g.lay(g.place(v, 1), api.Integer, 0)
	if known {
		g.operateWith(api.SUB, scratch, 0, last)
	} else {
		g.load(api.Integer, 1, stack, 0)
		g.operate(api.SUB, scratch, 0, 1)
	}
	end := g.jump(behindLast(s.N))
	g.block(s.Blocks[0])
	g.fetch(g.place(v, 0), api.Integer, 0)
	g.operateWith(api.ADD, 0, 0, uint32(s.N))
	g.jumpBack(always, again)
	g.land(end)
	if !known {
		g.shrink(wordBytes)
	}
}

// behindLast is the condition by which a For with some step ends.
func behindLast(step int64) int {
	if step < 0 {
		return less
	}
	return above
}
