package show

import (
	"strconv"
	"strings"

	"carrel/api"
)

// Ranks of expressions: one that ranks less than is asked for stands in brackets.
const (
	noRank = iota
	relation
	sum
	product
	factor
)

// rankOf is the rank of a sign between two; noRank: it is none.
func rankOf(sign string) int {
	switch sign {
	case "=", "#", "<", "<=", ">", ">=", "IN", "IS":
		return relation
	case "+", "-", "OR":
		return sum
	case "*", "/", "DIV", "MOD", "&":
		return product
	}
	return noRank
}

// expression is what stands at a node where an expression is asked for.
type expression interface {
	thing
	rank() int
}

func expressionAt(n api.Node) expression {
	switch n.Kind {
	case api.NInt:
		return word(integer(n.N))
	case api.NChar:
		return word(character(n.N))
	case api.NStr:
		return word(`"` + n.Text + `"`)
	case api.NNil:
		return word("NIL")
	case api.NBool:
		return word(truth(n.N))
	case api.NSet:
		return set(n)
	case api.NUnary:
		return unary(n)
	case api.NBinary:
		return binary(n)
	}
	return designatorAt(n)
}

func designatorAt(n api.Node) expression {
	switch n.Kind {
	case api.NName:
		return word(n.Text)
	case api.NField:
		return field(n)
	case api.NIndex:
		return index(n)
	case api.NDeref:
		return deref(n)
	case api.NCall:
		return call(n)
	}
	return nothing{}
}

// expression writes one where a rank is asked for.
func (w *writer) expression(n api.Node, asked int) {
	x := expressionAt(n)
	if x.rank() < asked {
		w.within("(", func() { x.write(w) }, ")")
		return
	}
	x.write(w)
}

// anyExpression writes one where brackets would say nothing.
func (w *writer) anyExpression(n api.Node) { w.expression(n, noRank) }

func (w *writer) designator(n api.Node) { designatorAt(n).write(w) }

func integer(n int64) string {
	if n < 0 {
		return "0" + digits(uint32(n)) + "H"
	}
	return strconv.FormatInt(n, 10)
}

func character(n int64) string {
	text := digits(uint32(n))
	if text[0] > '9' {
		text = "0" + text // with a letter first it would be a name
	}
	return text + "X"
}

// digits are those of base sixteen.
func digits(n uint32) string { return strings.ToUpper(strconv.FormatUint(uint64(n), 16)) }

func truth(n int64) string {
	if n == 0 {
		return "FALSE"
	}
	return "TRUE"
}

type binary api.Node

func (x binary) rank() int { return rankOf(x.Text) }

func (x binary) write(w *writer) {
	w.expression(x.Kids[0], max(x.rank(), sum)) // a relation stands beside no other one
	w.put(" ", x.Text, " ")
	w.expression(x.Kids[1], x.rank()+1)
}

type unary api.Node

func (x unary) rank() int {
	if x.Text == "~" {
		return factor
	}
	return sum
}

func (x unary) write(w *writer) {
	asked := product
	if x.Text == "~" {
		asked = factor
	}
	w.within(x.Text, func() { w.expression(x.Kids[0], asked) }, "")
}

type set api.Node

func (set) rank() int { return factor }

func (x set) write(w *writer) {
	w.within("{", func() { w.row(x.Kids, ", ", w.element) }, "}")
}

// element writes a Set's: an expression, or a Range.
func (w *writer) element(n api.Node) {
	if n.Kind == api.NRange {
		w.row(n.Kids, "..", w.anyExpression)
		return
	}
	w.anyExpression(n)
}

type field api.Node

func (field) rank() int { return factor }

func (x field) write(w *writer) {
	w.designator(x.Kids[0])
	w.put(".", x.Text)
}

type index api.Node

func (index) rank() int { return factor }

func (x index) write(w *writer) {
	w.designator(x.Kids[0])
	w.within("[", func() { w.anyExpression(x.Kids[1]) }, "]")
}

type deref api.Node

func (deref) rank() int { return factor }

func (x deref) write(w *writer) {
	w.designator(x.Kids[0])
	w.put("^")
}

type call api.Node

func (call) rank() int { return factor }

func (x call) write(w *writer) {
	w.designator(x.Kids[0])
	w.within("(", func() { w.row(x.Kids[1:], ", ", w.anyExpression) }, ")")
}
