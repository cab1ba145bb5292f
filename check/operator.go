package check

import "carrel/api"

// operation is what a sign between Kids of some types makes, and its type; 0: nothing.
func operation(sign string, left, right int) (op, t int) {
	switch {
	case isNumber(left) && isNumber(right):
		return ofNumbers(sign), api.Integer
	case left == api.Set && right == api.Set:
		return ofSets(sign), api.Set
	case left == api.Boolean && right == api.Boolean:
		return ofBooleans(sign), api.Boolean
	case isNumber(left) && right == api.Set && sign == "IN":
		return api.EIn, api.Boolean
	}
	return 0, 0
}

func ofNumbers(sign string) int {
	switch sign {
	case "+":
		return api.EAdd
	case "-":
		return api.ESub
	case "*":
		return api.EMul
	case "DIV":
		return api.EDiv
	case "MOD":
		return api.EMod
	}
	return 0
}

func ofSets(sign string) int {
	switch sign {
	case "+":
		return api.EUnion
	case "-":
		return api.EMinus
	case "*":
		return api.EInter
	case "/":
		return api.ESym
	}
	return 0
}

func ofBooleans(sign string) int {
	switch sign {
	case "OR":
		return api.EOr
	case "&":
		return api.EAnd
	}
	return 0
}

// comparison is the operation of a sign that compares; 0: it does not.
func comparison(sign string) int {
	switch sign {
	case "=":
		return api.EEq
	case "#":
		return api.ENe
	case "<":
		return api.ELt
	case "<=":
		return api.ELe
	case ">":
		return api.EGt
	case ">=":
		return api.EGe
	}
	return 0
}

func (c *checker) unary(n api.Node) expression {
	kid := c.expression(n.Kids[0])
	t := kid.typeOf()
	switch {
	case n.Text == "+" && isNumber(t):
		return signed(kid)
	case n.Text == "-" && isNumber(t):
		return reckoned(api.ENeg, api.Integer, kid)
	case n.Text == "-" && t == api.Set:
		return reckoned(api.ECompl, api.Set, kid)
	case n.Text == "~" && t == api.Boolean:
		return reckoned(api.ENot, api.Boolean, kid)
	}
	panic(fault{n.At, api.ErrCheckType})
}

// signed is a number with + ahead: it stays, but is no variable any more.
func signed(e expression) expression {
	if v, ok := e.(variable); ok {
		return v.value
	}
	return e
}

func (c *checker) binary(n api.Node) expression {
	if n.Text == "IS" {
		return c.is(n)
	}
	a, b := c.expression(n.Kids[0]), c.expression(n.Kids[1])
	if op := comparison(n.Text); op != 0 {
		return c.compared(n.At, op, a, b)
	}
	op, t := operation(n.Text, a.typeOf(), b.typeOf())
	must(op != 0, n.At, api.ErrCheckType)
	must(mayReckon(op, a, b), n.At, api.ErrCheckConst)
	return reckoned(op, t, a, b)
}

// mayReckon: would a run reckon it, too, if both are constant?
func mayReckon(op int, a, b expression) bool {
	x, ok := a.(constant)
	y, both := b.(constant)
	if !ok || !both {
		return true
	}
	switch op {
	case api.EDiv, api.EMod:
		return y.n > 0
	case api.EIn:
		return !isOutside(x, mostElement)
	}
	return true
}

func (c *checker) compared(at, op int, a, b expression) expression {
	way := comparesOrder
	if op == api.EEq || op == api.ENe {
		way = compares
	}
	a, b = charFor(a, b.typeOf()), charFor(b, a.typeOf())
	must(c.holds(way, a.typeOf(), b.typeOf()), at, api.ErrCheckType)
	return reckoned(op, api.Boolean, a, b)
}

// reckoned is an operation: of constants a constant.
func reckoned(op, t int, kids ...expression) expression {
	x := api.Expr{Op: op, Type: t}
	var known []int64
	for _, kid := range kids {
		if k, ok := kid.(constant); ok {
			known = append(known, k.n)
		}
		x.Kids = append(x.Kids, made(kid))
	}
	if len(known) == len(kids) {
		return constant{t, folded(op, known)}
	}
	return value{x}
}

func (c *checker) is(n api.Node) expression {
	kid, right := c.expression(n.Kids[0]), n.Kids[1]
	must(right.Kind == api.NName, right.At, api.ErrCheckName)
	t := c.namedType(right)
	must(c.extendsPointer(t, kid.typeOf()), n.At, api.ErrCheckType)
	return value{api.Expr{Op: api.EIs, Type: api.Boolean, N: int64(t), Kids: []api.Expr{made(kid)}}}
}
