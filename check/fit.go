package check

import (
	"carrel/api"
	"carrel/types"
)

// What is asked of types, which reads its whole row at each question: so each is asked once.
const (
	assigns = iota
	passes
	passesRef
	compares
	comparesOrder
	extends
	aligns
)

type question struct{ way, a, b int }

type fieldName struct {
	record int
	name   string
}

type fieldFound struct {
	field api.Field
	ok    bool
}

func (c *checker) form(t int) int { return c.mod.Types[t].Form }

// holds: do two types fit in some way?
func (c *checker) holds(way, a, b int) bool { return c.answer(question{way, a, b}) != 0 }

func (c *checker) align(t int) int { return c.answer(question{aligns, t, t}) }

func (c *checker) answer(q question) int {
	n, ok := c.answers[q]
	if !ok {
		n = ask(c.mod.Types, q)
		c.answers[q] = n
	}
	return n
}

func ask(row []api.Type, q question) int {
	switch q.way {
	case assigns:
		return truth(types.Assigns(row, q.a, q.b))
	case passes:
		return truth(types.Passes(row, q.a, q.b, false))
	case passesRef:
		return truth(types.Passes(row, q.a, q.b, true))
	case compares:
		return truth(types.Compares(row, q.a, q.b, false))
	case comparesOrder:
		return truth(types.Compares(row, q.a, q.b, true))
	case extends:
		return truth(types.Extends(row, q.a, q.b))
	}
	return types.Align(row, q.a)
}

func truth(holds bool) int {
	if holds {
		return 1
	}
	return 0
}

func (c *checker) fieldOf(record int, name string) (api.Field, bool) {
	key := fieldName{record, name}
	found, ok := c.fields[key]
	if !ok {
		found.field, found.ok = types.Field(c.mod.Types, record, name)
		c.fields[key] = found
	}
	return found.field, found.ok
}

// isNumber: is it INTEGER or BYTE?
func isNumber(t int) bool { return t == api.Integer || t == api.Byte }

// extendsPointer: are both Pointers, and the first one such that what it points to is what the second one points to, too?
func (c *checker) extendsPointer(t, base int) bool {
	return c.form(t) == api.Pointer && c.form(base) == api.Pointer && c.holds(extends, t, base)
}

// charFor is an expression where a type is asked for: a constant string of one byte is a CHAR, where that fits.
func charFor(e expression, t int) expression {
	if s, ok := e.(text); ok && t == api.Char && len(s) == 1 {
		return constant{api.Char, int64(s[0])}
	}
	return e
}

// isAssigned: does an expression fit a variable?
func (c *checker) isAssigned(e expression, t int) bool {
	s, ok := e.(text)
	if !ok {
		return c.holds(assigns, e.typeOf(), t)
	}
	return c.isOpenText(t) || c.holds(assigns, api.String, t) && len(s) < c.mod.Types[t].Len
}

// isHanded: does it fit a parameter without VAR?
func (c *checker) isHanded(e expression, t int) bool {
	if _, ok := e.(text); ok {
		return c.isOpenText(t)
	}
	return c.holds(passes, e.typeOf(), t)
}

// isOpenText: is it an Open of CHAR?
func (c *checker) isOpenText(t int) bool {
	return c.form(t) == api.Open && c.holds(passes, api.String, t)
}

// made is an expression, but no text, as it stands in the module.
func made(e expression) api.Expr {
	switch x := e.(type) {
	case constant:
		return api.Expr{Op: api.ELit, Type: x.of, N: x.n}
	case variable:
		return x.expr
	}
	return e.(value).expr
}

// needed is an expression that is assigned or handed over; a text is one of the module's strings then.
func (c *checker) needed(e expression, at int) api.Expr {
	if s, ok := e.(text); ok {
		return api.Expr{Op: api.EStr, Type: api.String, N: c.stringOf(string(s), at)}
	}
	return made(e)
}

func (c *checker) stringOf(s string, at int) int64 {
	n, ok := c.strings[s]
	if !ok {
		n = len(c.mod.Strings)
		must(n < api.MaxVars, at, api.ErrCheckMany)
		c.strings[s] = n
		c.mod.Strings = append(c.mod.Strings, s)
	}
	return int64(n)
}
