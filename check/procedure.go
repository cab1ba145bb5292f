package check

import "carrel/api"

func (c *checker) declareProc(n api.Node) {
	c.local = newScope()
	p := api.Proc{Name: n.Text, Export: n.Flag}
	for _, kid := range ofKind(n, api.NParam) {
		c.params(kid, &p)
	}
	for _, kid := range ofKind(n, api.NResult) {
		p.Result = c.result(kid)
	}
	must(!p.Export || c.mayExport(p), n.At, api.ErrCheckExport)
	must(len(c.mod.Procs) < api.MaxProcs, n.At, api.ErrCheckMany)
	means := procedure{module: -1, number: len(c.mod.Procs), params: p.Vars, result: p.Result}
	c.declare(&c.names, n.Text, n.At, means)
	for _, kid := range ofKind(n, api.NConst) {
		means := c.constantValue(kid)
		must(!kid.Flag, kid.At, api.ErrCheckExport)
		c.declare(&c.local, kid.Text, kid.At, means)
	}
	frame := 0
	for _, kid := range ofKind(n, api.NVar) {
		frame = c.ownVars(kid, &p, frame)
	}
	for _, kid := range ofKind(n, api.NBlock) {
		p.Body = c.block(kid)
	}
	p.Value = c.returned(n, p.Result)
	c.mod.Procs = append(c.mod.Procs, p)
	c.local = scope{}
}

func (c *checker) params(n api.Node, p *api.Proc) {
	idents, of := named(n)
	t := c.typeAt(of)
	sets := n.Flag || isPlain(t) || c.form(t) == api.Pointer
	for _, x := range idents {
		must(p.Params < api.MaxParams, x.At, api.ErrCheckMany)
		p.Params++
		c.ownVar(x, p, api.Var{Name: x.Text, Type: t, Ref: n.Flag}, sets)
	}
}

// ownVar declares a parameter or a variable of a procedure.
func (c *checker) ownVar(n api.Node, p *api.Proc, v api.Var, sets bool) {
	x := api.Expr{Op: api.ELocal, Type: v.Type, N: int64(len(p.Vars))}
	c.declare(&c.local, n.Text, n.At, variable{value{x}, sets})
	p.Vars = append(p.Vars, v)
}

func (c *checker) result(n api.Node) int {
	t := c.namedType(n)
	must(isPlain(t) || c.form(t) == api.Pointer, n.At, api.ErrCheckType)
	return t
}

// mayExport: may other modules call a procedure?
func (c *checker) mayExport(p api.Proc) bool {
	for _, v := range p.Vars {
		open := c.form(v.Type) == api.Open && isPlain(c.mod.Types[v.Type].Elem)
		if !isPlain(v.Type) && !open {
			return false
		}
	}
	return p.Result == api.NoType || isPlain(p.Result)
}

// ownVars declares a procedure's own variables, behind those that take so many bytes; how many do then.
func (c *checker) ownVars(n api.Node, p *api.Proc, frame int) int {
	idents, of := named(n)
	t := c.typeAt(of)
	for _, x := range idents {
		must(!x.Flag, x.At, api.ErrCheckExport)
		frame = (frame+c.align(t)-1)/c.align(t)*c.align(t) + c.mod.Types[t].Size
		must(len(p.Vars) < api.MaxVars && frame <= api.MaxFrame, x.At, api.ErrCheckMany)
		c.ownVar(x, p, api.Var{Name: x.Text, Type: t}, true)
	}
	return frame
}

// returned is a procedure's Value.
func (c *checker) returned(n api.Node, result int) []api.Expr {
	returns := ofKind(n, api.NReturn)
	must((len(returns) == 1) == (result != api.NoType), n.At, api.ErrCheckType)
	if result == api.NoType {
		return nil
	}
	back := returns[0]
	e := charFor(c.expression(back.Kids[0]), result)
	must(c.isAssigned(e, result), back.At, api.ErrCheckType)
	return []api.Expr{made(e)}
}
