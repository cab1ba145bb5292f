package check

import "carrel/api"

// expression is what one was found to be.
type expression interface {
	typeOf() int
}

// constant is one of INTEGER, BOOLEAN, CHAR or SET.
type constant struct {
	of int
	n  int64
}

// text is a constant string, which is none of the module's strings until it is needed.
type text string

// value is what only a run tells (and NIL).
type value struct{ expr api.Expr }

// variable is a value that has a place of its own.
type variable struct {
	value
	sets bool // it may be set
}

func (x constant) typeOf() int { return x.of }
func (x text) typeOf() int     { return api.String }
func (x value) typeOf() int    { return x.expr.Type }

func maySet(e expression) bool {
	v, ok := e.(variable)
	return ok && v.sets
}

// isOutside: is an expression constant, and not from 0 to some number?
func isOutside(e expression, most int) bool {
	x, ok := e.(constant)
	return ok && (x.n < 0 || x.n > int64(most))
}

// mostElement is a SET's greatest one.
const mostElement = 31

func (c *checker) expression(n api.Node) expression {
	switch n.Kind {
	case api.NInt:
		return constant{api.Integer, n.N}
	case api.NChar:
		return constant{api.Char, n.N}
	case api.NBool:
		return constant{api.Boolean, n.N}
	case api.NStr:
		return text(n.Text)
	case api.NNil:
		return value{api.Expr{Op: api.ELit, Type: api.Nil}}
	case api.NSet:
		return c.set(n)
	case api.NUnary:
		return c.unary(n)
	case api.NBinary:
		return c.binary(n)
	}
	return c.designator(n)
}

func (c *checker) designator(n api.Node) expression {
	if c.isNamed(n) {
		return c.thing(n)
	}
	switch n.Kind {
	case api.NField:
		return c.field(n)
	case api.NIndex:
		return c.index(n)
	case api.NDeref:
		kid := c.expression(n.Kids[0])
		must(c.form(kid.typeOf()) == api.Pointer, n.At, api.ErrCheckType)
		return c.deref(kid)
	}
	return c.call(call{at: n.At, designator: n.Kids[0], args: n.Kids[1:]})
}

// thing is a constant or a variable that a Name, or a Field M.x, means.
func (c *checker) thing(n api.Node) expression {
	if e, ok := c.meaningOf(n).(expression); ok {
		return e
	}
	panic(fault{n.At, api.ErrCheckName})
}

// deref is what a pointer points to.
func (c *checker) deref(pointer expression) variable {
	record := c.mod.Types[pointer.typeOf()].Elem
	return variable{value{api.Expr{Op: api.EDeref, Type: record, Kids: []api.Expr{made(pointer)}}}, true}
}

func (c *checker) field(n api.Node) expression {
	kid := c.expression(n.Kids[0])
	if c.form(kid.typeOf()) == api.Pointer {
		kid = c.deref(kid)
	}
	record := kid.typeOf()
	must(c.form(record) == api.Record, n.At, api.ErrCheckType)
	f, ok := c.fieldOf(record, n.Text)
	must(ok, n.At, api.ErrCheckName)
	x := api.Expr{Op: api.EField, Type: f.Type, N: int64(f.Off), Kids: []api.Expr{made(kid)}}
	return variable{value{x}, maySet(kid)}
}

func (c *checker) index(n api.Node) expression {
	array, at := c.expression(n.Kids[0]), c.expression(n.Kids[1])
	t := c.mod.Types[array.typeOf()]
	must((t.Form == api.Array || t.Form == api.Open) && isNumber(at.typeOf()), n.At, api.ErrCheckType)
	must(t.Form == api.Open || !isOutside(at, t.Len-1), n.At, api.ErrCheckConst)
	x := api.Expr{Op: api.EIndex, Type: t.Elem, Kids: []api.Expr{made(array), made(at)}}
	return variable{value{x}, maySet(array)}
}

// set is a Set: a constant, if all its elements are.
func (c *checker) set(n api.Node) expression {
	bits := constant{of: api.Set}
	all := true
	x := api.Expr{Op: api.ESet, Type: api.Set}
	for _, kid := range n.Kids {
		one, known, ok := c.element(kid)
		bits.n |= known
		all = all && ok
		x.Kids = append(x.Kids, one)
	}
	if all {
		return bits
	}
	return value{x}
}

// element is one of a Set; if it is constant (ok), its bits too.
func (c *checker) element(n api.Node) (x api.Expr, bits int64, ok bool) {
	x = api.Expr{Op: api.ESingle, Type: api.Set}
	ends := []api.Node{n}
	if n.Kind == api.NRange {
		x.Op = api.ERange
		ends = n.Kids
	}
	found := make([]expression, len(ends))
	for i, end := range ends {
		found[i] = c.expression(end)
	}
	for _, e := range found {
		must(isNumber(e.typeOf()), n.At, api.ErrCheckType)
	}
	for _, e := range found {
		must(!isOutside(e, mostElement), n.At, api.ErrCheckConst)
		x.Kids = append(x.Kids, made(e))
	}
	from, isFrom := found[0].(constant)
	to, isTo := found[len(found)-1].(constant)
	if !isFrom || !isTo {
		return x, 0, false
	}
	for i := from.n; i <= to.n; i++ {
		bits |= 1 << i
	}
	return x, bits, true
}
