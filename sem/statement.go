package sem

import "carrel/api"

func (r *run) block(l []api.Stat) {
	r.enter()
	for i := range l {
		r.pay(1)
		r.statement(&l[i])
	}
	r.leave()
}

func (r *run) statement(s *api.Stat) {
	switch s.Op {
	case api.SAssign:
		r.assign(s)
	case api.SString:
		r.assignString(s)
	case api.SCall:
		r.reckon(&s.Exprs[0])
	case api.SIf:
		r.branch(s)
	case api.SWhile:
		r.while(s)
	case api.SRepeat:
		r.repeat(s)
	case api.SFor:
		r.count(s)
	default:
		panic(api.ErrSemForm)
	}
}

func (r *run) assign(s *api.Stat) {
	to := r.variable(&s.Exprs[0])
	what := r.value(&s.Exprs[1])
	if _, whole := what.(variable); whole {
		r.pay(words(len(to.bytes)))
	}
	what.put(to.bytes)
}

// assignString asks of every array whether it is long enough: check has done so of all but an Open.
func (r *run) assignString(s *api.Stat) {
	to, text := r.variable(&s.Exprs[0]), r.variable(&s.Exprs[1])
	must(to.length >= text.length, api.TrapCopy)
	r.pay(words(text.length))
	text.put(to.bytes)
}

// branch does the Block of the first condition that holds, or the one that is left; false, if there is none.
func (r *run) branch(s *api.Stat) bool {
	for i := range s.Exprs {
		if r.holds(&s.Exprs[i]) {
			r.block(s.Blocks[i])
			return true
		}
	}
	if len(s.Blocks) > len(s.Exprs) {
		r.block(s.Blocks[len(s.Exprs)])
		return true
	}
	return false
}

func (r *run) while(s *api.Stat) {
	r.pay(1)
	for r.branch(s) {
		r.pay(1)
	}
}

func (r *run) repeat(s *api.Stat) {
	for {
		r.block(s.Blocks[0])
		r.pay(1)
		if r.holds(&s.Exprs[0]) {
			return
		}
	}
}

func (r *run) count(s *api.Stat) {
	from, to := r.number(&s.Exprs[1]), r.number(&s.Exprs[2])
	v := r.variable(&s.Exprs[0])
	from.put(v.bytes)
	for {
		r.pay(1)
		at := v.has().(number)
		if s.N > 0 && at > to || s.N < 0 && at < to {
			return
		}
		r.block(s.Blocks[0])
		at = v.has().(number)
		(at + number(s.N)).put(v.bytes)
	}
}
