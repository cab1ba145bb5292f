package gen

import "carrel/api"

// frame is where a procedure's variables lie, from the stack's top on: its own ones, the address to go back to, its parameters, in order.
type frame struct {
	vars []local
	own  int // bytes
}

// local is a variable of a procedure.
type local struct {
	off int
	far bool // its address stands there, of an Open with its length behind
}

// param is how an argument is handed over: by its value, or by its address; of an Open with its length.
type param struct{ far, open bool }

func (p param) bytes() int {
	if p.open {
		return 2 * wordBytes
	}
	return wordBytes
}

func (g *maker) paramOf(v api.Var) param {
	switch g.form(v.Type) {
	case api.Open:
		return param{far: true, open: true}
	case api.Array, api.Record:
		return param{far: true}
	}
	return param{far: v.Ref}
}

// paramsOf are those of a procedure of this module.
func (g *maker) paramsOf(p *api.Proc) []param {
	must(len(p.Vars) <= api.MaxVars && p.Params <= api.MaxParams)
	var l []param
	for _, v := range p.Vars[:p.Params] {
		l = append(l, g.paramOf(v))
	}
	return l
}

// shownParams are those of one that an imported module shows.
func shownParams(p *api.SymProc) []param {
	must(len(p.Params) <= api.MaxParams)
	var l []param
	for _, v := range p.Params {
		l = append(l, param{far: v.Ref || v.Open, open: v.Open})
	}
	return l
}

func (g *maker) called(x *api.Expr) []param {
	if x.M == ownModule {
		return g.paramsOf(&g.mod.Procs[x.N])
	}
	return shownParams(&g.mod.Syms[x.M].Procs[x.N])
}

func roundUp(n, step int) int { return (n + step - 1) / step * step }

func (g *maker) frameOf(p *api.Proc) frame {
	params := g.paramsOf(p)
	var own []local
	end := 0
	for _, v := range p.Vars[p.Params:] {
		at := roundUp(end, g.align(v.Type))
		own = append(own, local{off: at})
		end = at + g.mod.Types[v.Type].Size
	}
	f := frame{own: roundUp(end, wordBytes)}
	at := f.own + wordBytes
	for _, one := range params {
		f.vars = append(f.vars, local{off: at, far: one.far})
		at += one.bytes()
	}
	f.vars = append(f.vars, own...)
	return f
}

// procedure makes a procedure's code. It counts itself as under way, so that whoever calls it need not.
func (g *maker) procedure(p *api.Proc) {
	g.now = g.frameOf(p)
	g.countIn()
	g.openFrame()
	g.clearOwn()
	g.block(p.Body)
	for i := range p.Value {
		g.value(&p.Value[i], result)
	}
	if p.Result == api.Byte {
		g.operateWith(api.AND, result, result, 0xFF)
	}
	g.countOut()
	g.closeFrame()
}

// ownStatements makes the code of the module's own statements, which are no call.
func (g *maker) ownStatements(l []api.Stat) {
	g.now = frame{}
	g.openFrame()
	g.block(l)
	g.closeFrame()
}

// result is the register of a procedure's.
const result = 0

// countIn counts a call, or traps, if too many are under way.
func (g *maker) countIn() {
	g.constant(0, 0)
	g.load(api.Integer, 1, 0, api.CallDepth)
	g.operateWith(api.SUB, 2, 1, api.MaxCalls)
	g.trapIf(notLess, api.TrapStack)
	g.operateWith(api.ADD, 1, 1, 1)
	g.store(api.Integer, 1, 0, api.CallDepth)
}

// countOut counts it as done. The result stays.
func (g *maker) countOut() {
	g.constant(1, 0)
	g.load(api.Integer, 2, 1, api.CallDepth)
	g.operateWith(api.SUB, 2, 2, 1)
	g.store(api.Integer, 2, 1, api.CallDepth)
}

func (g *maker) openFrame() {
	g.operateWith(api.SUB, stack, stack, uint32(g.now.own+wordBytes))
	g.store(api.Integer, link, stack, g.now.own)
}

func (g *maker) closeFrame() {
	g.load(api.Integer, link, stack, g.now.own)
	g.operateWith(api.ADD, stack, stack, uint32(g.now.own+wordBytes))
	g.goBack()
}

// fewBytes are cleared by an instruction for each word, more by a loop.
const fewBytes = 6 * wordBytes

// clearOwn makes a procedure's own variables noughts.
func (g *maker) clearOwn() {
	own := g.now.own
	if own == 0 {
		return
	}
	g.constant(0, 0)
	if own <= fewBytes {
		for at := 0; at < own; at += wordBytes {
			g.store(api.Integer, 0, stack, at)
		}
		return
	}
	g.move(1, stack)
	g.operateWith(api.ADD, 2, stack, uint32(own))
	again := len(g.code)
	g.store(api.Integer, 0, 1, 0)
	g.operateWith(api.ADD, 1, 1, wordBytes)
	g.operate(api.SUB, scratch, 2, 1)
	g.jumpBack(notZero, again)
}

// call calls a procedure. The registers below r, which its code may change, are kept on the stack meanwhile, above the arguments.
func (g *maker) call(x *api.Expr, r int) {
	params := g.called(x)
	must(len(x.Kids) == len(params))
	g.grow(r * wordBytes)
	for i := range r {
		g.store(api.Integer, i, stack, i*wordBytes)
	}
	room := g.arguments(x.Kids, params)
	g.fix(api.Fix{Kind: api.FixProc, M: x.M, N: int(x.N)})
	g.callAhead()
	if r != result && x.Type != api.NoType {
		g.move(r, result)
	}
	for i := range r {
		g.load(api.Integer, i, stack, room+i*wordBytes)
	}
	g.shrink(room + r*wordBytes)
}

// arguments lays them on the stack; how many bytes they take. They wait in registers for one another, so that calls within calls need no more of the stack than they must.
func (g *maker) arguments(kids []api.Expr, params []param) int {
	room := 0
	for i, p := range params {
		room += p.bytes()
		if p.far {
			g.address(g.place(&kids[i], i), i)
		} else {
			g.value(&kids[i], i)
		}
	}
	g.grow(room)
	at := 0
	for i, p := range params {
		g.store(api.Integer, i, stack, at)
		if p.open {
			g.length(&kids[i], scratch)
			g.store(api.Integer, scratch, stack, at+wordBytes)
		}
		at += p.bytes()
	}
	return room
}
