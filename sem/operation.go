package sem

import "carrel/api"

// operation is a Unary or a Binary, behind its first Kid.
func (r *run) operation(x *api.Expr, a value) value {
	switch x.Op {
	case api.ENeg:
		return -a.(number)
	case api.ENot:
		return !a.(truth)
	case api.ECompl:
		return ^a.(set)
	case api.EAnd:
		return a.(truth) && truth(r.holds(&x.Kids[1]))
	case api.EOr:
		return a.(truth) || truth(r.holds(&x.Kids[1]))
	}
	b := r.value(&x.Kids[1])
	switch x.Op {
	case api.EAdd, api.ESub, api.EMul, api.EDiv, api.EMod:
		return arithmetic(x.Op, a.(number), b.(number))
	case api.EUnion, api.EMinus, api.EInter, api.ESym:
		return ofSets(x.Op, a.(set), b.(set))
	case api.EIn:
		must(isBit(a.(number)), api.TrapRange)
		return truth(b.(set)>>a.(number)&1 != 0)
	case api.EEq:
		return truth(a == b)
	case api.ENe:
		return truth(a != b)
	}
	return truth(ordered(x.Op, ordinal(a), ordinal(b)))
}

func arithmetic(op int, a, b number) number {
	switch op {
	case api.EAdd:
		return a + b
	case api.ESub:
		return a - b
	case api.EMul:
		return a * b
	}
	must(b > 0, api.TrapDivide)
	quotient, rest := a/b, a%b
	if rest < 0 { // Go's goes towards 0, this one downwards
		quotient, rest = quotient-1, rest+b
	}
	if op == api.EDiv {
		return quotient
	}
	return rest
}

func ofSets(op int, a, b set) set {
	switch op {
	case api.EUnion:
		return a | b
	case api.EMinus:
		return a &^ b
	case api.EInter:
		return a & b
	}
	return a ^ b
}

func ordered(op int, a, b number) bool {
	switch op {
	case api.ELt:
		return a < b
	case api.ELe:
		return a <= b
	case api.EGt:
		return a > b
	}
	return a >= b
}

// ordinal is a value as a number: what ORD gives, and what is compared.
func ordinal(v value) number {
	switch x := v.(type) {
	case number:
		return x
	case character:
		return number(x)
	case truth:
		return x.number()
	case set:
		return number(x)
	}
	panic(api.ErrSemForm)
}
