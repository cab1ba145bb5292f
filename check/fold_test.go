package check

import (
	"fmt"
	"math/big"
	"math/rand"
	"testing"

	"carrel/api"
)

// plain is a constant expression: its source, its type, and its value as whole numbers tell it; none: it has no value.
type plain struct {
	text string
	of   int
	n    *big.Int
	none bool
}

// word is a number taken round to 32 bits, with its sign or without.
func word(n *big.Int, sign bool) *big.Int {
	m := new(big.Int).Mod(n, big.NewInt(1<<32)) // from 0 on
	if sign && m.Cmp(big.NewInt(1<<31)) >= 0 {
		m.Sub(m, big.NewInt(1<<32))
	}
	return m
}

func flag(ok bool) *big.Int {
	if ok {
		return big.NewInt(1)
	}
	return big.NewInt(0)
}

// anyPlain is one of chance, of a type.
func anyPlain(r *rand.Rand, of, deep int) plain {
	if deep == 0 {
		return leaf(r, of)
	}
	switch of {
	case api.Integer:
		return anyNumber(r, deep)
	case api.Boolean:
		return anyTruth(r, deep)
	case api.Set:
		return anySet(r, deep)
	}
	x := anyPlain(r, api.Integer, deep-1)
	out := x.n.Sign() < 0 || x.n.Cmp(big.NewInt(255)) > 0
	return plain{"CHR(" + x.text + ")", api.Char, x.n, x.none || out}
}

func leaf(r *rand.Rand, of int) plain {
	switch of {
	case api.Integer:
		n := []int64{int64(r.Intn(40)), int64(r.Intn(300)), 1<<31 - 1, int64(r.Int31())}[r.Intn(4)]
		return plain{fmt.Sprint(n), of, big.NewInt(n), false}
	case api.Boolean:
		n := r.Intn(2)
		return plain{[]string{"FALSE", "TRUE"}[n], of, big.NewInt(int64(n)), false}
	case api.Char:
		n := r.Intn(256)
		return plain{fmt.Sprintf("0%XX", n), of, big.NewInt(int64(n)), false}
	}
	a, b := r.Intn(32), r.Intn(32)
	n := new(big.Int).SetBit(new(big.Int), a, 1)
	return plain{fmt.Sprintf("{%d, %d}", a, b), of, n.SetBit(n, b, 1), false}
}

func anyNumber(r *rand.Rand, deep int) plain {
	a, b := anyPlain(r, api.Integer, deep-1), anyPlain(r, api.Integer, deep-1)
	two := func(sign string, n *big.Int, none bool) plain {
		return plain{"((" + a.text + ") " + sign + " (" + b.text + "))", api.Integer, word(n, true), a.none || b.none || none}
	}
	call := func(name string, n *big.Int) plain {
		return plain{name + "(" + a.text + ", " + b.text + ")", api.Integer, word(n, true), a.none || b.none}
	}
	by := uint(new(big.Int).Mod(b.n, big.NewInt(32)).Int64())
	z := new(big.Int)
	above := b.n.Sign() > 0
	switch r.Intn(10) {
	case 0:
		return two("+", z.Add(a.n, b.n), false)
	case 1:
		return two("-", z.Sub(a.n, b.n), false)
	case 2:
		return two("*", z.Mul(a.n, b.n), false)
	case 3:
		if !above {
			return two("DIV", z, true)
		}
		return two("DIV", z.Div(a.n, b.n), false)
	case 4:
		if !above {
			return two("MOD", z, true)
		}
		return two("MOD", z.Mod(a.n, b.n), false)
	case 5:
		return plain{"(-(" + a.text + "))", api.Integer, word(z.Neg(a.n), true), a.none}
	case 6:
		return plain{"ABS(" + a.text + ")", api.Integer, word(z.Abs(a.n), true), a.none}
	case 7:
		return call("LSL", z.Lsh(a.n, by))
	case 8:
		return call("ASR", z.Rsh(a.n, by))
	}
	low := word(a.n, false)
	return call("ROR", z.Or(z.Rsh(low, by), new(big.Int).Lsh(low, 32-by)))
}

func anyTruth(r *rand.Rand, deep int) plain {
	of := []int{api.Integer, api.Char, api.Boolean, api.Set}[r.Intn(4)]
	a, b := anyPlain(r, of, deep-1), anyPlain(r, of, deep-1)
	two := func(sign string, ok bool) plain {
		return plain{"((" + a.text + ") " + sign + " (" + b.text + "))", api.Boolean, flag(ok), a.none || b.none}
	}
	less := a.n.Cmp(b.n)
	if of == api.Boolean {
		switch r.Intn(3) {
		case 0:
			return two("&", a.n.Sign() != 0 && b.n.Sign() != 0)
		case 1:
			return two("OR", a.n.Sign() != 0 || b.n.Sign() != 0)
		case 2:
			return plain{"(~(" + a.text + "))", api.Boolean, flag(a.n.Sign() == 0), a.none}
		}
	}
	if of == api.Integer && r.Intn(3) == 0 {
		return plain{"ODD(" + a.text + ")", api.Boolean, flag(a.n.Bit(0) == 1), a.none}
	}
	if of == api.Set && r.Intn(2) == 0 {
		x := anyPlain(r, api.Integer, 0)
		out := x.n.Cmp(big.NewInt(31)) > 0
		return plain{"((" + x.text + ") IN (" + a.text + "))", api.Boolean, flag(!out && a.n.Bit(int(x.n.Int64())) == 1), a.none || out}
	}
	k := r.Intn(6)
	if of == api.Set || of == api.Boolean {
		k = r.Intn(2)
	}
	return two([]string{"=", "#", "<", "<=", ">", ">="}[k], []bool{less == 0, less != 0, less < 0, less <= 0, less > 0, less >= 0}[k])
}

func anySet(r *rand.Rand, deep int) plain {
	a, b := anyPlain(r, api.Set, deep-1), anyPlain(r, api.Set, deep-1)
	z := new(big.Int)
	two := func(sign string, n *big.Int) plain {
		return plain{"((" + a.text + ") " + sign + " (" + b.text + "))", api.Set, n, a.none || b.none}
	}
	switch r.Intn(6) {
	case 0:
		return two("+", z.Or(a.n, b.n))
	case 1:
		return two("-", z.AndNot(a.n, b.n))
	case 2:
		return two("*", z.And(a.n, b.n))
	case 3:
		return two("/", z.Xor(a.n, b.n))
	case 4:
		return plain{"(-(" + a.text + "))", api.Set, word(z.Not(a.n), false), a.none}
	}
	from, to := leaf(r, api.Integer), leaf(r, api.Integer)
	out := from.n.Cmp(big.NewInt(31)) > 0 || to.n.Cmp(big.NewInt(31)) > 0
	for i := from.n.Int64(); i <= to.n.Int64() && !out; i++ {
		z.SetBit(z, int(i), 1)
	}
	return plain{"{" + from.text + ".." + to.text + "}", api.Set, z, out}
}

func TestConstantsOfChance(t *testing.T) { // P12.1: constants' values, held against whole numbers
	r := rand.New(rand.NewSource(5))
	values := 0
	for range 6000 {
		x := anyPlain(r, []int{api.Integer, api.Boolean, api.Set, api.Char}[r.Intn(4)], 1+r.Intn(3))
		m, _, e := Source("MODULE M; CONST c = "+x.text+"; END M.", nil)
		if x.none {
			if e != api.ErrCheckConst {
				t.Fatalf("%s: %v", x.text, e)
			}
			continue
		}
		values++
		if e != api.OK || m.Consts[0].Type != x.of || m.Consts[0].N != x.n.Int64() {
			t.Fatalf("%s: %v, %s; want %v", x.text, e, tellConsts(m.Consts), x.n)
		}
		// ORD makes a number of it, a For's step and an Array's length too
		if x.of != api.Integer {
			m, _, e = Source("MODULE M; CONST c = ORD("+x.text+"); END M.", nil)
			if e != api.OK || m.Consts[0].Type != api.Integer || m.Consts[0].N != word(x.n, true).Int64() {
				t.Fatalf("ORD(%s): %v, %s", x.text, e, tellConsts(m.Consts))
			}
		}
	}
	if values < 2000 {
		t.Errorf("%d values: chance is one-sided", values)
	}
}
