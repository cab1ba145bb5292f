package sem

import (
	"math/bits"

	"carrel/api"
)

const mostCharacter = 255

// function is a standard one, behind its first argument.
func (r *run) function(x *api.Expr, v value) value {
	if x.N == api.StdLen {
		return number(v.(variable).length)
	}
	a := ordinal(taken(v))
	switch x.N {
	case api.StdAbs:
		return max(a, -a)
	case api.StdOdd:
		return truth(a&1 != 0)
	case api.StdOrd:
		return a
	case api.StdChr:
		must(0 <= a && a <= mostCharacter, api.TrapRange)
		return character(a)
	}
	return shifted(x.N, a, r.number(&x.Kids[1]))
}

func shifted(way int64, a, by number) number {
	n := int(by & (wordBits - 1))
	switch way {
	case api.StdLsl:
		return a << n
	case api.StdAsr:
		return a >> n
	}
	return number(bits.RotateLeft32(uint32(a), -n))
}

// do does a standard procedure, behind its first argument.
func (r *run) do(x *api.Expr, v value) {
	switch x.N {
	case api.StdInc, api.StdDec:
		r.step(x, v.(variable))
	case api.StdIncl, api.StdExcl:
		r.change(x, v.(variable))
	case api.StdNew:
		r.newRecord(x.Kids[0].Type).put(v.(variable).bytes)
	case api.StdAssert:
		must(bool(taken(v).(truth)), api.TrapAssert)
	case api.StdEmit:
		r.emit(taken(v).(character))
	case api.StdTake:
		r.take().put(v.(variable).bytes)
	default:
		panic(api.ErrSemForm)
	}
}

// step is INC or DEC.
func (r *run) step(x *api.Expr, v variable) {
	by := number(1)
	if len(x.Kids) > 1 {
		by = r.number(&x.Kids[1])
	}
	if x.N == api.StdDec {
		by = -by
	}
	(v.has().(number) + by).put(v.bytes)
}

// change is INCL or EXCL.
func (r *run) change(x *api.Expr, v variable) {
	bit := set(1) << r.bit(&x.Kids[1])
	s := v.has().(set)
	if x.N == api.StdExcl {
		(s &^ bit).put(v.bytes)
		return
	}
	(s | bit).put(v.bytes)
}
