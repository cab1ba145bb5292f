package check

import "carrel/api"

// How a standard thing's argument is asked for.
const (
	aValue = iota
	aPlace // a variable
	toSet  // a variable that may be set
	anElement
)

// asked is what an argument must be: one of some forms, each a bit.
type asked struct{ how, forms int }

const (
	ofInteger = 1 << api.Integer
	ofBoolean = 1 << api.Boolean
	ofChar    = 1 << api.Char
	ofSet     = 1 << api.Set
	ofByte    = 1 << api.Byte
	ofNumber  = ofInteger | ofByte
	ofArray   = 1<<api.Array | 1<<api.Open
	ofPointer = 1 << api.Pointer
	ofAny     = -1
)

// standardCall is a standard function, or a procedure (without a result).
type standardCall struct {
	name   string
	result int
	least  int // how many arguments; at most there are as many as are told
	args   []asked
}

// standardFunction is the row of a standard function.
func standardFunction(number int) standardCall {
	one := []asked{{aValue, ofNumber}}
	two := []asked{{aValue, ofNumber}, {aValue, ofNumber}}
	switch number {
	case api.StdAbs:
		return standardCall{"ABS", api.Integer, 1, one}
	case api.StdOdd:
		return standardCall{"ODD", api.Boolean, 1, one}
	case api.StdLen:
		return standardCall{"LEN", api.Integer, 1, []asked{{aPlace, ofArray}}}
	case api.StdLsl:
		return standardCall{"LSL", api.Integer, 2, two}
	case api.StdAsr:
		return standardCall{"ASR", api.Integer, 2, two}
	case api.StdRor:
		return standardCall{"ROR", api.Integer, 2, two}
	case api.StdOrd:
		return standardCall{"ORD", api.Integer, 1, []asked{{aValue, ofChar | ofBoolean | ofSet | ofByte}}}
	case api.StdChr:
		return standardCall{"CHR", api.Char, 1, one}
	}
	return standardCall{"ADR", api.Integer, 1, []asked{{aPlace, ofAny}}}
}

// standardOf is the row of a standard function or procedure.
func standardOf(number int) standardCall {
	const none = api.NoType
	count := []asked{{toSet, ofInteger}, {aValue, ofNumber}}
	element := []asked{{toSet, ofSet}, {anElement, ofNumber}}
	switch number {
	case api.StdInc:
		return standardCall{"INC", none, 1, count}
	case api.StdDec:
		return standardCall{"DEC", none, 1, count}
	case api.StdIncl:
		return standardCall{"INCL", none, 2, element}
	case api.StdExcl:
		return standardCall{"EXCL", none, 2, element}
	case api.StdNew:
		return standardCall{"NEW", none, 1, []asked{{toSet, ofPointer}}}
	case api.StdAssert:
		return standardCall{"ASSERT", none, 1, []asked{{aValue, ofBoolean}}}
	case api.StdEmit:
		return standardCall{"EMIT", none, 1, []asked{{aValue, ofChar}}}
	case api.StdTake:
		return standardCall{"TAKE", none, 1, []asked{{toSet, ofChar}}}
	case api.StdHalt:
		return standardCall{"HALT", none, 0, nil}
	case api.StdGet:
		return standardCall{"GET", none, 2, []asked{{aValue, ofNumber}, {toSet, ofNumber | ofChar}}}
	case api.StdPut:
		return standardCall{"PUT", none, 2, []asked{{aValue, ofNumber}, {aValue, ofNumber | ofChar}}}
	case api.StdCall:
		return standardCall{"CALL", none, 1, []asked{{aValue, ofNumber}}}
	}
	return standardFunction(number)
}

// standardNames are those that each module has.
func standardNames() scope {
	s := newScope()
	s.add("INTEGER", typeName(api.Integer))
	s.add("BOOLEAN", typeName(api.Boolean))
	s.add("CHAR", typeName(api.Char))
	s.add("BYTE", typeName(api.Byte))
	s.add("SET", typeName(api.Set))
	for n := api.StdAbs; n <= api.StdHalt; n++ {
		s.add(standardOf(n).name, standard(n))
	}
	return s
}

// systemNames are those that SYSTEM has.
func systemNames() scope {
	s := newScope()
	for n := api.StdAdr; n <= api.StdCall; n++ {
		s.add(standardOf(n).name, standard(n))
	}
	return s
}

func (c *checker) callStandard(k call, number int) expression {
	row := standardOf(number)
	k.mustCall(row.result, row.least, len(row.args))
	x := api.Expr{Op: api.EStd, Type: row.result, N: int64(number)}
	strings := len(c.mod.Strings)
	var args []int64 // those that are constant
	for i, n := range k.args {
		e := c.standardArgument(n, row.args[i])
		if known, ok := e.(constant); ok {
			args = append(args, known.n)
		}
		x.Kids = append(x.Kids, made(e))
	}
	if number == api.StdLen {
		return c.length(x, strings)
	}
	if row.result == api.NoType || len(args) < len(k.args) {
		return value{x}
	}
	must(number != api.StdChr || 0 <= args[0] && args[0] <= mostChar, k.at, api.ErrCheckConst)
	return constant{row.result, foldedCall(number, args)}
}

// mostChar is the greatest CHAR's number.
const mostChar = 255

// length is LEN, ahead of which there were so many strings. It is known of an Array, of which then nothing is needed.
func (c *checker) length(x api.Expr, strings int) expression {
	t := c.mod.Types[x.Kids[0].Type]
	if t.Form == api.Open {
		return value{x}
	}
	for _, s := range c.mod.Strings[strings:] {
		delete(c.strings, s)
	}
	c.mod.Strings = c.mod.Strings[:strings]
	return constant{api.Integer, int64(t.Len)}
}

func (c *checker) standardArgument(n api.Node, a asked) expression {
	e := c.expression(n)
	switch a.how {
	case aPlace:
		_, ok := e.(variable)
		must(ok, n.At, api.ErrCheckVar)
	case toSet:
		must(maySet(e), n.At, api.ErrCheckVar)
	}
	if a.forms&ofChar != 0 {
		e = charFor(e, api.Char)
	}
	must(a.forms>>c.form(e.typeOf())&1 != 0, n.At, api.ErrCheckType)
	must(a.how != anElement || !isOutside(e, mostElement), n.At, api.ErrCheckConst)
	return e
}
