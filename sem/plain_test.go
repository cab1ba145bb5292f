package sem

import (
	"math/bits"

	"carrel/api"
	"carrel/types"
)

// plainRun tells the chapter again, as plainly as it goes: all variables lie in one row of bytes, values are numbers, each call is one of Go's. It asks nothing of what it is given.
func plainRun(mods []api.Mod, input string, fuel int64) (a answer) {
	r := &plain{mods: mods, mem: make([]byte, 4), tags: map[int64]int{}, input: input, fuel: fuel}
	defer func() {
		end := recover().(api.End)
		a = answer{out: string(r.out), end: end, left: r.fuel}
	}()
	for _, m := range mods {
		var at []int64
		for _, v := range m.Vars {
			at = append(at, r.room(m.Types[v.Type].Size))
		}
		r.vars = append(r.vars, at)
	}
	for i := range mods {
		r.block(plainFrame{m: i}, mods[i].Init)
	}
	panic(api.End{Kind: api.EndHalt})
}

type plain struct {
	mods  []api.Mod
	mem   []byte
	vars  [][]int64     // where each module's are
	tags  map[int64]int // the types of records, by where they are
	input string
	out   []byte
	fuel  int64
	heap  int
	calls int
}

type plainFrame struct {
	m        int
	at, lens []int64
}

func (r *plain) room(n int) int64 {
	at := len(r.mem)
	r.mem = append(r.mem, make([]byte, max(n, 1))...)
	return int64(at)
}

func (r *plain) pays(n int) {
	r.fuel -= int64(n)
	if r.fuel < 0 {
		r.fuel = 0
		panic(api.End{Kind: api.EndBudget})
	}
}

func (r *plain) paysBytes(n int) { r.pays((n + 3) / 4) }

func trapIf(is bool, n int) {
	if is {
		panic(api.End{Kind: api.EndTrap, Trap: n})
	}
}

func (r *plain) typeOf(f plainFrame, t int) api.Type { return r.mods[f.m].Types[t] }

func (r *plain) load(form int, at int64) int64 {
	switch form {
	case api.Boolean, api.Char, api.Byte:
		return int64(r.mem[at])
	}
	w := uint32(r.mem[at]) + uint32(r.mem[at+1])<<8 + uint32(r.mem[at+2])<<16 + uint32(r.mem[at+3])<<24
	if form == api.Integer {
		return int64(int32(w))
	}
	return int64(w)
}

func (r *plain) store(form int, at, n int64) {
	r.mem[at] = byte(n)
	switch form {
	case api.Boolean, api.Char, api.Byte:
		return
	}
	r.mem[at+1], r.mem[at+2], r.mem[at+3] = byte(n>>8), byte(n>>16), byte(n>>24)
}

// other is the module that an expression's M names.
func (r *plain) other(f plainFrame, m int) int {
	if m < 0 {
		return f.m
	}
	for i := range r.mods {
		if r.mods[i].Name == r.mods[f.m].Imports[m].Name {
			return i
		}
	}
	return -1
}

// shown is the number of the n-th thing that is exported.
func shownAt(n int64, exports []bool) int64 {
	for i, x := range exports {
		if x {
			n--
		}
		if n < 0 {
			return int64(i)
		}
	}
	return -1
}

// variable is where an expression's one is, and how many elements it has.
func (r *plain) variable(f plainFrame, x api.Expr) (at, n int64) {
	r.pays(1)
	n = int64(r.typeOf(f, x.Type).Len)
	switch x.Op {
	case api.EStr:
		s := r.mods[f.m].Strings[x.N]
		at = r.room(len(s) + 1)
		copy(r.mem[at:], s)
		return at, int64(len(s)) + 1
	case api.ELocal:
		return f.at[x.N], f.lens[x.N]
	case api.EGlobal:
		m, which := r.other(f, x.M), x.N
		if x.M >= 0 {
			var exports []bool
			for _, v := range r.mods[m].Vars {
				exports = append(exports, v.Export)
			}
			which = shownAt(x.N, exports)
		}
		return r.vars[m][which], n
	case api.EField:
		at, _ = r.variable(f, x.Kids[0])
		return at + x.N, n
	case api.EIndex:
		at, many := r.variable(f, x.Kids[0])
		i := r.value(f, x.Kids[1])
		trapIf(i < 0 || i >= many, 1)
		return at + i*int64(r.typeOf(f, x.Type).Size), n
	}
	p := r.value(f, x.Kids[0]) // EDeref
	trapIf(p == 0, 4)
	return p, n
}

func isPlace(op int) bool {
	return op == api.EStr || op == api.ELocal || op == api.EGlobal || op == api.EField || op == api.EIndex || op == api.EDeref
}

func number01(is bool) int64 {
	if is {
		return 1
	}
	return 0
}

func (r *plain) value(f plainFrame, x api.Expr) int64 {
	if isPlace(x.Op) {
		at, _ := r.variable(f, x)
		return r.load(r.typeOf(f, x.Type).Form, at)
	}
	r.pays(1)
	switch x.Op {
	case api.ELit:
		return x.N
	case api.ECall:
		return r.call(f, x)
	case api.EStd:
		return r.std(f, x)
	case api.ESet:
		return r.set(f, x)
	}
	a := r.value(f, x.Kids[0])
	switch x.Op {
	case api.EGuard, api.EIs:
		return r.record(f, x, a)
	case api.ENeg:
		return int64(int32(-a))
	case api.ENot:
		return 1 - a
	case api.ECompl:
		return int64(^uint32(a))
	}
	if x.Op == api.EAnd && a == 0 || x.Op == api.EOr && a == 1 {
		return a
	}
	return plainBinary(x.Op, a, r.value(f, x.Kids[1]))
}

func (r *plain) record(f plainFrame, x api.Expr, p int64) int64 {
	row := r.mods[f.m].Types
	if x.Op == api.EIs {
		return number01(p != 0 && types.Extends(row, r.tags[p], row[x.N].Elem))
	}
	trapIf(p == 0, 4)
	trapIf(!types.Extends(row, r.tags[p], row[x.Type].Elem), 2)
	return p
}

func plainBinary(op int, a, b int64) int64 {
	switch op {
	case api.EAnd, api.EOr:
		return b
	case api.EAdd:
		return int64(int32(a + b))
	case api.ESub:
		return int64(int32(a - b))
	case api.EMul:
		return int64(int32(a * b))
	case api.EDiv, api.EMod:
		trapIf(b <= 0, 6)
		rest := ((a % b) + b) % b
		if op == api.EMod {
			return rest
		}
		return (a - rest) / b
	case api.EUnion:
		return a | b
	case api.EMinus:
		return a &^ b
	case api.EInter:
		return a & b
	case api.ESym:
		return a ^ b
	case api.EIn:
		trapIf(a < 0 || a > 31, 5)
		return b >> a & 1
	}
	return number01(map[int]bool{api.EEq: a == b, api.ENe: a != b, api.ELt: a < b, api.ELe: a <= b, api.EGt: a > b, api.EGe: a >= b}[op])
}

func (r *plain) element(f plainFrame, x api.Expr) int64 {
	n := r.value(f, x)
	trapIf(n < 0 || n > 31, 5)
	return n
}

func (r *plain) set(f plainFrame, x api.Expr) (s int64) {
	for _, k := range x.Kids {
		r.pays(1)
		from := r.element(f, k.Kids[0])
		to := from
		if k.Op == api.ERange {
			to = r.element(f, k.Kids[1])
		}
		for n := int64(0); n < 32; n++ {
			if from <= n && n <= to {
				s |= 1 << n
			}
		}
	}
	return s
}

func (r *plain) call(f plainFrame, x api.Expr) int64 {
	g := plainFrame{m: r.other(f, x.M)}
	m := r.mods[g.m]
	which := x.N
	if x.M >= 0 {
		var exports []bool
		for _, p := range m.Procs {
			exports = append(exports, p.Export)
		}
		which = shownAt(x.N, exports)
	}
	p := m.Procs[which]
	for i, k := range x.Kids {
		v := p.Vars[i]
		t := m.Types[v.Type]
		if v.Ref || t.Form == api.Array || t.Form == api.Open || t.Form == api.Record {
			at, n := r.variable(f, k)
			g.at, g.lens = append(g.at, at), append(g.lens, n)
			continue
		}
		n := r.value(f, k)
		at := r.room(t.Size)
		r.store(t.Form, at, n)
		g.at, g.lens = append(g.at, at), append(g.lens, 0)
	}
	r.pays(1)
	for _, v := range p.Vars[p.Params:] {
		r.paysBytes(m.Types[v.Type].Size)
	}
	trapIf(r.calls == 64, 9)
	for _, v := range p.Vars[p.Params:] {
		g.at, g.lens = append(g.at, r.room(m.Types[v.Type].Size)), append(g.lens, int64(m.Types[v.Type].Len))
	}
	r.calls++
	r.block(g, p.Body)
	var back int64
	for _, v := range p.Value {
		back = r.value(g, v)
	}
	if p.Result == api.Byte {
		back &= 255
	}
	r.calls--
	return back
}

func (r *plain) std(f plainFrame, x api.Expr) int64 {
	switch x.N {
	case api.StdHalt:
		panic(api.End{Kind: api.EndHalt})
	case api.StdLen:
		_, n := r.variable(f, x.Kids[0])
		return n
	case api.StdInc, api.StdDec, api.StdIncl, api.StdExcl, api.StdNew, api.StdTake:
		r.sets(f, x)
		return 0
	}
	a, b := r.value(f, x.Kids[0]), int64(0)
	if len(x.Kids) == 2 {
		b = r.value(f, x.Kids[1]) & 31
	}
	switch x.N {
	case api.StdAbs:
		if a < 0 {
			a = int64(int32(-a))
		}
	case api.StdOdd:
		return a & 1
	case api.StdLsl:
		return int64(int32(a << b))
	case api.StdAsr:
		return a >> b
	case api.StdRor:
		return int64(int32(bits.RotateLeft32(uint32(a), 32-int(b))))
	case api.StdOrd:
		return int64(int32(a))
	case api.StdChr:
		trapIf(a < 0 || a > 255, 5)
	case api.StdAssert:
		trapIf(a == 0, 7)
	case api.StdEmit:
		if len(r.out) < 65536 {
			r.out = append(r.out, byte(a))
		}
	}
	return a
}

func (r *plain) sets(f plainFrame, x api.Expr) {
	at, _ := r.variable(f, x.Kids[0])
	n := int64(1)
	if len(x.Kids) == 2 {
		n = r.value(f, x.Kids[1])
	}
	switch x.N {
	case api.StdInc:
		r.store(api.Integer, at, r.load(api.Integer, at)+n)
	case api.StdDec:
		r.store(api.Integer, at, r.load(api.Integer, at)-n)
	case api.StdIncl, api.StdExcl:
		trapIf(n < 0 || n > 31, 5)
		s := r.load(api.Set, at) | 1<<n
		if x.N == api.StdExcl {
			s -= 1 << n
		}
		r.store(api.Set, at, s)
	case api.StdTake:
		if r.input == "" {
			panic(api.End{Kind: api.EndWait})
		}
		r.mem[at] = r.input[0]
		r.input = r.input[1:]
	case api.StdNew:
		of := r.typeOf(f, x.Kids[0].Type).Elem
		size := r.typeOf(f, of).Size
		r.paysBytes(size)
		r.heap += size + 4
		trapIf(r.heap > 65536, 8)
		p := r.room(size)
		r.tags[p] = of
		r.store(api.Pointer, at, p)
	}
}

func (r *plain) block(f plainFrame, l []api.Stat) {
	for _, s := range l {
		r.pays(1)
		r.stat(f, s)
	}
}

func (r *plain) stat(f plainFrame, s api.Stat) {
	switch s.Op {
	case api.SAssign:
		at, _ := r.variable(f, s.Exprs[0])
		t := r.typeOf(f, s.Exprs[0].Type)
		if t.Form != api.Array && t.Form != api.Record {
			r.store(t.Form, at, r.value(f, s.Exprs[1]))
			return
		}
		from, _ := r.variable(f, s.Exprs[1])
		r.paysBytes(t.Size)
		copy(r.mem[at:at+int64(t.Size)], r.mem[from:])
	case api.SString:
		at, n := r.variable(f, s.Exprs[0])
		from, length := r.variable(f, s.Exprs[1])
		trapIf(r.typeOf(f, s.Exprs[0].Type).Form == api.Open && n <= length-1, 3)
		r.paysBytes(int(length))
		copy(r.mem[at:at+length], r.mem[from:])
	case api.SCall:
		r.value(f, s.Exprs[0])
	case api.SIf:
		r.first(f, s)
	case api.SWhile:
		for r.pays(1); r.first(f, s); r.pays(1) {
		}
	case api.SRepeat:
		r.block(f, s.Blocks[0])
		r.pays(1)
		for r.value(f, s.Exprs[0]) == 0 {
			r.block(f, s.Blocks[0])
			r.pays(1)
		}
	case api.SFor:
		from, to := r.value(f, s.Exprs[1]), r.value(f, s.Exprs[2])
		at, _ := r.variable(f, s.Exprs[0])
		r.store(api.Integer, at, from)
		for r.pays(1); s.N > 0 && r.load(api.Integer, at) <= to || s.N < 0 && r.load(api.Integer, at) >= to; r.pays(1) {
			r.block(f, s.Blocks[0])
			r.store(api.Integer, at, r.load(api.Integer, at)+s.N)
		}
	}
}

// first does the Block of the first condition that holds.
func (r *plain) first(f plainFrame, s api.Stat) bool {
	for i, x := range s.Exprs {
		if r.value(f, x) == 1 {
			r.block(f, s.Blocks[i])
			return true
		}
	}
	if len(s.Blocks) > len(s.Exprs) {
		r.block(f, s.Blocks[len(s.Exprs)])
	}
	return false
}
