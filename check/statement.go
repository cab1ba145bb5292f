package check

import "carrel/api"

func (c *checker) block(n api.Node) []api.Stat {
	var l []api.Stat
	for _, kid := range n.Kids {
		l = append(l, c.statement(kid))
	}
	return l
}

func (c *checker) statement(n api.Node) api.Stat {
	switch n.Kind {
	case api.NAssign:
		return c.assign(n)
	case api.NDo:
		return c.do(n.Kids[0])
	case api.NIf:
		return c.branches(n, api.SIf)
	case api.NWhile:
		return c.branches(n, api.SWhile)
	case api.NRepeat:
		block := c.block(n.Kids[0])
		return api.Stat{Op: api.SRepeat, Exprs: []api.Expr{c.condition(n.Kids[1])}, Blocks: [][]api.Stat{block}}
	}
	return c.count(n)
}

func (c *checker) assign(n api.Node) api.Stat {
	to := c.expression(n.Kids[0])
	must(maySet(to), n.At, api.ErrCheckVar)
	t := to.typeOf()
	what := charFor(c.expression(n.Kids[1]), t)
	must(c.isAssigned(what, t), n.At, api.ErrCheckType)
	op := api.SAssign
	if _, ok := what.(text); ok {
		op = api.SString
	}
	return api.Stat{Op: op, Exprs: []api.Expr{made(to), c.needed(what, n.Kids[1].At)}}
}

// do is a Do, of a designator.
func (c *checker) do(n api.Node) api.Stat {
	k := call{at: n.At, designator: n, statement: true}
	if n.Kind == api.NCall {
		k.designator, k.args = n.Kids[0], n.Kids[1:]
	}
	return api.Stat{Op: api.SCall, Exprs: []api.Expr{made(c.call(k))}}
}

// branches is an If or a While: conditions, each with a Block behind it, and perhaps one Block more.
func (c *checker) branches(n api.Node, op int) api.Stat {
	s := api.Stat{Op: op}
	for _, kid := range n.Kids {
		if kid.Kind == api.NBlock {
			s.Blocks = append(s.Blocks, c.block(kid))
		} else {
			s.Exprs = append(s.Exprs, c.condition(kid))
		}
	}
	return s
}

func (c *checker) condition(n api.Node) api.Expr {
	e := c.expression(n)
	must(e.typeOf() == api.Boolean, n.At, api.ErrCheckType)
	return made(e)
}

// count is a For.
func (c *checker) count(n api.Node) api.Stat {
	means := c.find(n.Text)
	must(means.sort() == aVariable, n.At, api.ErrCheckName)
	v := means.(variable)
	must(v.sets, n.At, api.ErrCheckVar)
	must(v.typeOf() == api.Integer, n.At, api.ErrCheckType)
	s := api.Stat{Op: api.SFor, N: 1, Exprs: []api.Expr{v.expr}}
	kids, last := n.Kids, len(n.Kids)-1
	s.Exprs = append(s.Exprs, c.number(kids[0]), c.number(kids[1]))
	if last == 3 {
		s.N = c.step(n)
	}
	s.Blocks = [][]api.Stat{c.block(kids[last])}
	return s
}

func (c *checker) number(n api.Node) api.Expr {
	e := c.expression(n)
	must(isNumber(e.typeOf()), n.At, api.ErrCheckType)
	return made(e)
}

// step is a For's third expression.
func (c *checker) step(n api.Node) int64 {
	x, ok := c.expression(n.Kids[2]).(constant)
	must(ok && x.of == api.Integer && x.n != 0, n.At, api.ErrCheckConst)
	return x.n
}
