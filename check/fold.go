package check

import (
	"math/bits"

	"carrel/api"
)

// folded is what a run would make of constants.
func folded(op int, kids []int64) int64 {
	a, b := kids[0], kids[len(kids)-1]
	switch op {
	case api.ENeg, api.EAdd, api.ESub, api.EMul, api.EDiv, api.EMod:
		return int64(int32(foldedNumber(op, a, b)))
	case api.ECompl, api.EUnion, api.EMinus, api.EInter, api.ESym:
		return int64(uint32(foldedSet(op, a, b)))
	}
	return int64(truth(foldedTruth(op, a, b)))
}

func foldedNumber(op int, a, b int64) int64 {
	switch op {
	case api.ENeg:
		return -a
	case api.EAdd:
		return a + b
	case api.ESub:
		return a - b
	case api.EMul:
		return a * b
	}
	rest := (a%b + b) % b // b is above 0
	if op == api.EDiv {
		return (a - rest) / b
	}
	return rest
}

func foldedSet(op int, a, b int64) int64 {
	switch op {
	case api.ECompl:
		return ^a
	case api.EUnion:
		return a | b
	case api.EMinus:
		return a &^ b
	case api.EInter:
		return a & b
	}
	return a ^ b
}

func foldedTruth(op int, a, b int64) bool {
	switch op {
	case api.ENot:
		return a == 0
	case api.EAnd:
		return a&b != 0
	case api.EOr:
		return a|b != 0
	case api.EEq:
		return a == b
	case api.ENe:
		return a != b
	case api.ELt:
		return a < b
	case api.ELe:
		return a <= b
	case api.EGt:
		return a > b
	case api.EGe:
		return a >= b
	}
	return b>>a&1 != 0 // EIn
}

// foldedCall is what a run would make of a standard function of constants.
func foldedCall(number int, args []int64) int64 {
	x, by := args[0], int(args[len(args)-1]&31)
	switch number {
	case api.StdAbs:
		return int64(int32(max(x, -x)))
	case api.StdOdd:
		return x & 1
	case api.StdLsl:
		return int64(int32(x) << by)
	case api.StdAsr:
		return x >> by
	case api.StdRor:
		return int64(int32(bits.RotateLeft32(uint32(x), -by)))
	}
	return int64(int32(x)) // ORD, of a SET too; CHR
}
