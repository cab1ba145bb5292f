package check

import "carrel/api"

func (c *checker) whole(n api.Node) {
	c.mod.Name = n.Text
	for _, kid := range ofKind(n, api.NImport) {
		c.imported(kid)
	}
	for _, kid := range ofKind(n, api.NConst) {
		c.declareConst(kid)
	}
	for _, kid := range ofKind(n, api.NType) {
		c.declareType(kid)
	}
	c.keepPromises()
	for _, kid := range ofKind(n, api.NVar) {
		c.declareVars(kid)
	}
	for _, kid := range ofKind(n, api.NProc) {
		c.declareProc(kid)
	}
	for _, kid := range ofKind(n, api.NBlock) {
		c.mod.Init = c.block(kid)
	}
}

// ofKind are a node's Kids of a kind.
func ofKind(n api.Node, kind int) []api.Node {
	var kids []api.Node
	for _, kid := range n.Kids {
		if kid.Kind == kind {
			kids = append(kids, kid)
		}
	}
	return kids
}

// named parts a Var, a Param or a Fields: its Idents, and their type.
func named(n api.Node) ([]api.Node, api.Node) {
	last := len(n.Kids) - 1
	return n.Kids[:last], n.Kids[last]
}

func (c *checker) declareConst(n api.Node) {
	means := c.constantValue(n)
	must(len(c.mod.Consts) < api.MaxVars, n.At, api.ErrCheckMany)
	c.declare(&c.names, n.Text, n.At, means)
	k := api.Const{Name: n.Text, Export: n.Flag}
	switch x := means.(type) {
	case constant:
		k.Type, k.N = x.of, x.n
	case text:
		k.Type, k.S = api.String, string(x)
	}
	c.mod.Consts = append(c.mod.Consts, k)
}

// constantValue is what a Const's name is to mean.
func (c *checker) constantValue(n api.Node) meaning {
	switch x := c.expression(n.Kids[0]).(type) {
	case constant:
		return x
	case text:
		return x
	}
	panic(fault{n.At, api.ErrCheckConst})
}

func (c *checker) declareVars(n api.Node) {
	idents, of := named(n)
	t := c.typeAt(of)
	shows := isPlain(t) || c.form(t) == api.Array && isPlain(c.mod.Types[t].Elem)
	for _, x := range idents {
		must(shows || !x.Flag, x.At, api.ErrCheckExport)
		must(len(c.mod.Vars) < api.MaxVars, x.At, api.ErrCheckMany)
		own := api.Expr{Op: api.EGlobal, Type: t, M: -1, N: int64(len(c.mod.Vars))}
		c.declare(&c.names, x.Text, x.At, variable{value{own}, true})
		c.mod.Vars = append(c.mod.Vars, api.Var{Name: x.Text, Type: t, Export: x.Flag})
	}
}
