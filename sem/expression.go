package sem

import "carrel/api"

// reckon is what an expression is: a variable, where it is one, else a value (of a procedure nothing). First Kids are gone down to by a row of the run's own, not by a call each: a source may nest thousands of them, and do so in each of many calls.
func (r *run) reckon(x *api.Expr) value {
	r.enter()
	outer := len(r.begun)
	r.pay(1)
	for beginsWithKid(x) {
		r.begun = append(r.begun, x)
		x = &x.Kids[0]
		r.pay(1)
	}
	v := r.first(x)
	for len(r.begun) > outer {
		last := len(r.begun) - 1
		x = r.begun[last]
		r.begun = r.begun[:last]
		v = r.goOn(x, v)
	}
	r.leave()
	return v
}

// beginsWithKid: is the first thing to be done the first Kid?
func beginsWithKid(x *api.Expr) bool {
	return api.EField <= x.Op && x.Op <= api.EIn || x.Op == api.EStd && x.N != api.StdHalt
}

func (r *run) value(x *api.Expr) value { return taken(r.reckon(x)) }

func (r *run) variable(x *api.Expr) variable { return r.reckon(x).(variable) }

func (r *run) number(x *api.Expr) number { return r.value(x).(number) }

func (r *run) holds(x *api.Expr) bool { return bool(r.value(x).(truth)) }

// first reckons what does not begin with a Kid.
func (r *run) first(x *api.Expr) value {
	switch x.Op {
	case api.ELit:
		return literal(x.Type, x.N)
	case api.EStr:
		return r.now.in.text(x.N)
	case api.EGlobal:
		return r.now.in.global(x.M, x.N)
	case api.ELocal:
		return r.now.vars[x.N]
	case api.ESet:
		return r.set(x.Kids)
	case api.ECall:
		return r.call(x)
	case api.EStd:
		panic(api.End{Kind: api.EndHalt})
	}
	panic(api.ErrSemForm)
}

// goOn reckons what begins with a Kid, behind that.
func (r *run) goOn(x *api.Expr, v value) value {
	switch x.Op {
	case api.EField:
		return r.part(x, v.(variable).bytes, int(x.N))
	case api.EIndex:
		return r.element(x, v.(variable))
	case api.EDeref:
		return r.part(x, r.recordOf(taken(v).(pointer)).bytes, 0)
	case api.EGuard:
		p := taken(v).(pointer)
		must(r.now.in.isOf(r.recordOf(p).of, x.Type), api.TrapGuard)
		return p
	case api.EIs:
		p := taken(v).(pointer)
		return truth(p != 0 && r.now.in.isOf(r.recordOf(p).of, int(x.N)))
	case api.EStd:
		if x.N >= api.StdInc {
			r.do(x, v)
			return nil
		}
		return r.function(x, v)
	}
	return r.operation(x, taken(v))
}

// part is the variable that an expression's type has at a place of bytes.
func (r *run) part(x *api.Expr, bytes []byte, at int) variable {
	m := r.now.in
	return m.variableAt(x.Type, bytes[at:at+m.size(x.Type)])
}

func (r *run) element(x *api.Expr, array variable) variable {
	at := int(r.number(&x.Kids[1]))
	must(0 <= at && at < array.length, api.TrapIndex)
	return r.part(x, array.bytes, at*r.now.in.size(x.Type))
}

// set is an ESet's elements together.
func (r *run) set(elements []api.Expr) set {
	var s set
	for i := range elements {
		r.pay(1)
		kids := elements[i].Kids
		from := r.bit(&kids[0])
		to := from
		if elements[i].Op == api.ERange {
			to = r.bit(&kids[1])
		}
		for n := from; n <= to; n++ {
			s |= 1 << n
		}
	}
	return s
}

// bit is a number that a SET may have.
func (r *run) bit(x *api.Expr) number {
	n := r.number(x)
	must(isBit(n), api.TrapRange)
	return n
}

const wordBits = 32

// isBit: may it be an element of a SET?
func isBit(n number) bool { return 0 <= n && n < wordBits }
