package check

import "carrel/api"

// call is a Call, or a Do without one.
type call struct {
	at         int
	designator api.Node
	args       []api.Node
	statement  bool
}

func (c *checker) call(k call) expression {
	switch means := c.meaningOf(k.designator).(type) {
	case procedure:
		return c.callProcedure(k, means)
	case standard:
		return c.callStandard(k, int(means))
	}
	if t, ok := c.guardType(k); ok {
		return c.guard(k, t)
	}
	must(!c.isNamed(k.designator), k.designator.At, api.ErrCheckName)
	c.expression(k.designator)
	panic(fault{k.at, api.ErrCheckType})
}

// mustCall gives up, unless what gives something is called as an expression, what gives nothing as a statement, each with as many arguments as it takes.
func (k call) mustCall(result, least, most int) {
	must(k.statement == (result == api.NoType), k.at, api.ErrCheckType)
	must(least <= len(k.args) && len(k.args) <= most, k.at, api.ErrCheckArgs)
}

func (c *checker) callProcedure(k call, p procedure) expression {
	k.mustCall(p.result, len(p.params), len(p.params))
	x := api.Expr{Op: api.ECall, Type: p.result, M: p.module, N: int64(p.number)}
	for i, arg := range k.args {
		x.Kids = append(x.Kids, c.argument(arg, p.params[i]))
	}
	return value{x}
}

func (c *checker) argument(n api.Node, to api.Var) api.Expr {
	e := c.expression(n)
	if to.Ref {
		must(maySet(e), n.At, api.ErrCheckVar)
		must(c.holds(passesRef, e.typeOf(), to.Type), n.At, api.ErrCheckType)
		return made(e)
	}
	e = charFor(e, to.Type)
	must(c.isHanded(e, to.Type), n.At, api.ErrCheckType)
	return c.needed(e, n.At)
}

// guardType is the type that a Call asks for, if it looks like a type guard.
func (c *checker) guardType(k call) (int, bool) {
	if k.statement || len(k.args) != 1 || k.args[0].Kind != api.NName {
		return 0, false
	}
	t, ok := c.find(k.args[0].Text).(typeName)
	return int(t), ok
}

func (c *checker) guard(k call, t int) expression {
	pointer := c.expression(k.designator)
	must(c.extendsPointer(t, pointer.typeOf()), k.at, api.ErrCheckType)
	return value{api.Expr{Op: api.EGuard, Type: t, Kids: []api.Expr{made(pointer)}}}
}
