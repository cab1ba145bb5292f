package tree

import "carrel/api"

// Ranks of the signs that stand between two operands.
const (
	noRank = iota
	relation
	sum
	product
)

func rank(sign string) int {
	switch sign {
	case "=", "#", "<", "<=", ">", ">=", "IN", "IS":
		return relation
	case "+", "-", "OR":
		return sum
	case "*", "/", "DIV", "MOD", "&":
		return product
	}
	return noRank
}

func (r *reader) expression() api.Node {
	left := r.simple()
	if rank(r.word()) == relation {
		return r.binary(left, r.simple)
	}
	return left
}

func (r *reader) simple() api.Node {
	left := r.firstTerm()
	for rank(r.word()) == sum {
		left = r.binary(left, r.term)
	}
	return left
}

// firstTerm reads a simple's, the only one that may have a sign ahead.
func (r *reader) firstTerm() api.Node {
	if r.word() == "+" || r.word() == "-" {
		return r.unary(r.term)
	}
	return r.term()
}

func (r *reader) term() api.Node {
	left := r.factor()
	for rank(r.word()) == product {
		left = r.binary(left, r.factor)
	}
	return left
}

// binary reads the sign here, and what stands on its right.
func (r *reader) binary(left api.Node, right func() api.Node) api.Node {
	sign := r.pass()
	n := node(api.NBinary, sign.At, left, right())
	n.Text = sign.Text
	return n
}

// unary reads the sign here, and what it signs.
func (r *reader) unary(signed func() api.Node) api.Node {
	sign := r.begin()
	n := node(api.NUnary, sign.At, signed())
	n.Text = sign.Text
	r.end()
	return n
}

func (r *reader) factor() api.Node {
	token := r.here()
	switch token.Kind {
	case api.TokName:
		return r.designator()
	case api.TokInt:
		return r.literal(api.Node{Kind: api.NInt, N: token.N})
	case api.TokChar:
		return r.literal(api.Node{Kind: api.NChar, N: token.N})
	case api.TokStr:
		return r.literal(api.Node{Kind: api.NStr, Text: token.Text})
	}
	switch r.word() {
	case "NIL":
		return r.literal(api.Node{Kind: api.NNil})
	case "TRUE":
		return r.literal(api.Node{Kind: api.NBool, N: 1})
	case "FALSE":
		return r.literal(api.Node{Kind: api.NBool})
	case "~":
		return r.unary(r.factor)
	case "{":
		return r.set()
	case "(":
		return r.group()
	}
	panic(r.fault(api.ErrTreeToken))
}

// literal passes the one token that a node is.
func (r *reader) literal(n api.Node) api.Node {
	n.At = r.pass().At
	return n
}

func (r *reader) group() api.Node {
	r.begin()
	n := r.expression()
	r.must(")")
	r.end()
	return n
}

func (r *reader) set() api.Node {
	n := node(api.NSet, r.begin().At)
	if r.word() != "}" {
		n.Kids = r.row(",", r.element)
	}
	r.must("}")
	r.end()
	return n
}

// element reads a set's: an expression, or a Range.
func (r *reader) element() api.Node {
	from := r.expression()
	if r.word() != ".." {
		return from
	}
	at := r.pass().At
	return node(api.NRange, at, from, r.expression())
}

func (r *reader) designator() api.Node {
	n := r.named(api.NName)
	for {
		switch r.word() {
		case ".":
			n = r.field(n)
		case "[":
			n = r.index(n)
		case "^":
			n = node(api.NDeref, r.pass().At, n)
		case "(":
			n = r.call(n)
		default:
			return n
		}
	}
}

func (r *reader) field(record api.Node) api.Node {
	n := node(api.NField, r.pass().At, record)
	n.Text = r.name().Text
	return n
}

// index reads as many Indexes, each of the one ahead, as there are expressions.
func (r *reader) index(array api.Node) api.Node {
	at := r.begin().At
	n := array
	for _, one := range r.row(",", r.expression) {
		n = node(api.NIndex, at, n, one)
	}
	r.must("]")
	r.end()
	return n
}

func (r *reader) call(procedure api.Node) api.Node {
	n := node(api.NCall, r.begin().At, procedure)
	if r.word() != ")" {
		n.Kids = append(n.Kids, r.row(",", r.expression)...)
	}
	r.must(")")
	r.end()
	return n
}
