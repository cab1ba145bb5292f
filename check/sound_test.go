package check

import (
	"math"
	"testing"

	"carrel/api"
	"carrel/types"
)

// sound asks of a module that was made what follows, and of each part of it what the chapter's tables say.
func sound(t *testing.T, what string, m api.Mod) {
	t.Helper()
	s := &soundness{t: t, what: what, m: m}
	if !types.Right(m.Types) || len(m.Types) > api.MaxTypes {
		t.Errorf("%s: types that are no right row", what)
		return
	}
	if len(m.Imports) != len(m.Syms) || len(m.Imports) > api.MaxImports || len(m.Consts) > api.MaxVars || len(m.Vars) > api.MaxVars ||
		len(m.Procs) > api.MaxProcs || len(m.Strings) > api.MaxVars {
		t.Errorf("%s: too many of something, or Imports without Syms", what)
	}
	for i, x := range m.Imports {
		s.must(x.Name == m.Syms[i].Name && x.Key == 0, "import")
	}
	for _, x := range m.Consts {
		s.must(isConst(x) && (x.Type == api.String) == (x.N == 0 && x.Type == api.String) && (x.S == "" || x.Type == api.String), "constant "+x.Name)
	}
	for _, x := range m.Vars {
		s.must(types.Align(m.Types, x.Type) > 0 && !x.Ref, "variable "+x.Name)
	}
	named := map[int64]bool{}
	s.strings = named
	for i := range m.Procs {
		s.proc(m.Procs[i])
	}
	s.local = nil
	s.block(m.Init)
	for i := range m.Strings {
		s.must(named[int64(i)], "a string that nothing names")
	}
}

type soundness struct {
	t       *testing.T
	what    string
	m       api.Mod
	local   []api.Var
	strings map[int64]bool
}

func (s *soundness) must(ok bool, what string) {
	if !ok {
		s.t.Helper()
		s.t.Errorf("%s: %s", s.what, what)
	}
}

func (s *soundness) proc(p api.Proc) {
	s.local = p.Vars
	s.must(0 <= p.Params && p.Params <= min(len(p.Vars), api.MaxParams) && len(p.Vars) <= api.MaxVars, "parameters of "+p.Name)
	for i, v := range p.Vars {
		s.must(!v.Export && (i < p.Params || !v.Ref), "variable "+v.Name)
		s.must(types.Align(s.m.Types, v.Type) > 0 || i < p.Params && s.form(v.Type) == api.Open, "type of "+v.Name)
	}
	s.block(p.Body)
	s.must(len(p.Value) == min(p.Result, 1), "value of "+p.Name)
	for _, x := range p.Value {
		s.expr(x)
		s.must(types.Assigns(s.m.Types, x.Type, p.Result) && x.Type != api.String, "type of the value of "+p.Name)
	}
}

func (s *soundness) form(t int) int {
	if t < 0 || t >= len(s.m.Types) {
		s.must(false, "a type that is no place")
		return 0
	}
	return s.m.Types[t].Form
}

func (s *soundness) block(l []api.Stat) {
	for _, x := range l {
		s.stat(x)
	}
}

func (s *soundness) stat(x api.Stat) {
	for _, b := range x.Blocks {
		s.block(b)
	}
	for _, e := range x.Exprs {
		s.expr(e)
	}
	n, b := len(x.Exprs), len(x.Blocks)
	is := func(k int) int { return x.Exprs[k].Type }
	switch x.Op {
	case api.SAssign:
		s.must(n == 2 && b == 0 && s.sets(x.Exprs[0]) && types.Assigns(s.m.Types, is(1), is(0)) && is(1) != api.String, "an assignment")
	case api.SString:
		to := s.m.Types[is(0)]
		fits := to.Form == api.Open || to.Form == api.Array && to.Len > len(s.m.Strings[x.Exprs[1].N])
		s.must(n == 2 && b == 0 && s.sets(x.Exprs[0]) && to.Elem == api.Char && fits && x.Exprs[1].Op == api.EStr, "a string's assignment")
	case api.SCall:
		s.must(n == 1 && b == 0 && is(0) == 0 && (x.Exprs[0].Op == api.ECall || x.Exprs[0].Op == api.EStd), "a call")
	case api.SIf, api.SWhile, api.SRepeat:
		s.must(n > 0 && (b == n || b == n+1 && x.Op == api.SIf), "branches")
		for _, e := range x.Exprs {
			s.must(e.Type == api.Boolean, "a condition")
		}
	case api.SFor:
		s.must(n == 3 && b == 1 && x.N != 0 && is(0) == api.Integer && s.sets(x.Exprs[0]) && isNumber(is(1)) && isNumber(is(2)), "a For")
	default:
		s.must(false, "a statement of no kind")
	}
	s.must(x.N == 0 || x.Op == api.SFor, "a number of a statement")
}

// sets: may what an expression is be set?
func (s *soundness) sets(x api.Expr) bool {
	switch x.Op {
	case api.EGlobal:
		return x.M == -1
	case api.ELocal:
		return true // which of them, tables ask
	case api.EField, api.EIndex:
		return s.sets(x.Kids[0])
	}
	return x.Op == api.EDeref
}

func (s *soundness) variable(x api.Expr) bool {
	return x.Op == api.EGlobal || x.Op == api.ELocal || x.Op == api.EField || x.Op == api.EIndex || x.Op == api.EDeref
}

// expr looks at a value, or a variable; its Kids first.
func (s *soundness) expr(x api.Expr) {
	for _, k := range x.Kids {
		if k.Op != api.ESingle && k.Op != api.ERange {
			s.expr(k)
		}
	}
	s.must(x.Type >= 0 && x.Type < len(s.m.Types), "an expression's type")
	if !s.fits(x) {
		s.must(false, "an expression that may not be: "+tellExpr(x))
	}
}

func (s *soundness) fits(x api.Expr) bool {
	l, n := s.m.Types, len(x.Kids)
	kid := func(k int) int { return x.Kids[k].Type }
	form := func(k int) int { return s.form(kid(k)) }
	switch x.Op {
	case api.ELit:
		return n == 0 && s.literal(x)
	case api.EStr:
		s.strings[x.N] = true
		return n == 0 && x.Type == api.String && 0 <= x.N && x.N < int64(len(s.m.Strings))
	case api.EGlobal:
		return n == 0 && s.global(x)
	case api.ELocal:
		return n == 0 && 0 <= x.N && x.N < int64(len(s.local)) && s.local[x.N].Type == x.Type
	case api.EField:
		return n == 1 && form(0) == api.Record && s.hasField(kid(0), x)
	case api.EIndex:
		return n == 2 && (form(0) == api.Array || form(0) == api.Open) && isNumber(kid(1)) && x.Type == l[kid(0)].Elem
	case api.EDeref:
		return n == 1 && form(0) == api.Pointer && x.Type == l[kid(0)].Elem
	case api.EGuard:
		return n == 1 && types.Extends(l, x.Type, kid(0)) && form(0) == api.Pointer
	case api.EIs:
		return n == 1 && types.Extends(l, int(x.N), kid(0)) && form(0) == api.Pointer && x.Type == api.Boolean
	case api.ESet:
		return n > 0 && x.Type == api.Set && s.elements(x.Kids)
	case api.ECall:
		return s.call(x)
	case api.EStd:
		return s.std(x)
	}
	return s.operation(x)
}

func (s *soundness) literal(x api.Expr) bool {
	switch x.Type {
	case api.Integer:
		return math.MinInt32 <= x.N && x.N <= math.MaxInt32
	case api.Boolean:
		return x.N == 0 || x.N == 1
	case api.Char:
		return 0 <= x.N && x.N <= 255
	case api.Set:
		return 0 <= x.N && x.N <= math.MaxUint32
	}
	return x.Type == api.Nil && x.N == 0
}

func (s *soundness) global(x api.Expr) bool {
	if x.M == -1 {
		return 0 <= x.N && x.N < int64(len(s.m.Vars)) && s.m.Vars[x.N].Type == x.Type
	}
	if x.M < 0 || x.M >= len(s.m.Syms) || x.N < 0 || x.N >= int64(len(s.m.Syms[x.M].Vars)) {
		return false
	}
	v := s.m.Syms[x.M].Vars[x.N]
	return v.Len == 0 && x.Type == v.Form || s.m.Types[x.Type].Form == api.Array && s.m.Types[x.Type].Len == v.Len && s.m.Types[x.Type].Elem == v.Form
}

func (s *soundness) hasField(record int, x api.Expr) bool {
	for at := record; at != 0; at = s.m.Types[at].Base {
		for _, f := range s.m.Types[at].Fields {
			if int64(f.Off) == x.N && f.Type == x.Type {
				return true
			}
		}
	}
	return false
}

func (s *soundness) elements(l []api.Expr) bool {
	for _, e := range l {
		if e.Type != api.Set || e.M != 0 || e.N != 0 || e.Op == api.ESingle && len(e.Kids) != 1 || e.Op == api.ERange && len(e.Kids) != 2 || e.Op != api.ESingle && e.Op != api.ERange {
			return false
		}
		for _, k := range e.Kids {
			s.expr(k)
			if !isNumber(k.Type) || k.Op == api.ELit && (k.N < 0 || k.N > 31) {
				return false
			}
		}
	}
	return true
}

func (s *soundness) call(x api.Expr) bool {
	var params []api.Var
	result := 0
	switch {
	case x.M == -1 && 0 <= x.N && x.N < int64(len(s.m.Procs)):
		p := s.m.Procs[x.N]
		params, result = p.Vars[:p.Params], p.Result
	case 0 <= x.M && x.M < len(s.m.Syms) && 0 <= x.N && x.N < int64(len(s.m.Syms[x.M].Procs)):
		p := s.m.Syms[x.M].Procs[x.N]
		for _, v := range p.Params {
			params = append(params, api.Var{Type: s.shown(v), Ref: v.Ref})
		}
		result = p.Result
	default:
		return false
	}
	if len(params) != len(x.Kids) || result != x.Type {
		return false
	}
	for i, k := range x.Kids {
		if !types.Passes(s.m.Types, k.Type, params[i].Type, params[i].Ref) || params[i].Ref && !s.sets(k) || k.Type == api.String && s.form(params[i].Type) != api.Open {
			return false
		}
	}
	return true
}

// shown is some type such as an imported procedure's parameter has.
func (s *soundness) shown(v api.SymVar) int {
	if !v.Open {
		return v.Form
	}
	for at, x := range s.m.Types {
		if x.Form == api.Open && x.Elem == v.Form {
			return at
		}
	}
	return -1
}

func (s *soundness) std(x api.Expr) bool {
	n := len(x.Kids)
	in := func(k int, forms ...int) bool {
		for _, f := range forms {
			if s.form(x.Kids[k].Type) == f {
				return true
			}
		}
		return false
	}
	number := func(k int) bool { return in(k, api.Integer, api.Byte) }
	set := func(k int) bool { return s.sets(x.Kids[k]) }
	switch x.N {
	case api.StdAbs, api.StdLsl, api.StdAsr, api.StdRor:
		return x.Type == api.Integer && n == 1+min(1, int(x.N)-api.StdAbs) && number(0) && number(n-1)
	case api.StdOdd:
		return x.Type == api.Boolean && n == 1 && number(0)
	case api.StdLen:
		return x.Type == api.Integer && n == 1 && in(0, api.Open) && s.variable(x.Kids[0])
	case api.StdOrd:
		return x.Type == api.Integer && n == 1 && in(0, api.Char, api.Boolean, api.Set, api.Byte)
	case api.StdChr:
		return x.Type == api.Char && n == 1 && number(0)
	case api.StdAdr:
		return x.Type == api.Integer && n == 1 && s.variable(x.Kids[0]) && s.m.System
	}
	if x.Type != 0 {
		return false
	}
	switch x.N {
	case api.StdInc, api.StdDec:
		return (n == 1 || n == 2 && number(1)) && in(0, api.Integer) && set(0)
	case api.StdIncl, api.StdExcl:
		return n == 2 && in(0, api.Set) && set(0) && number(1)
	case api.StdNew:
		return n == 1 && in(0, api.Pointer) && set(0)
	case api.StdAssert:
		return n == 1 && in(0, api.Boolean)
	case api.StdEmit:
		return n == 1 && in(0, api.Char)
	case api.StdTake:
		return n == 1 && in(0, api.Char) && set(0)
	case api.StdHalt:
		return n == 0
	case api.StdGet:
		return n == 2 && number(0) && in(1, api.Integer, api.Char, api.Byte) && set(1) && s.m.System
	case api.StdPut:
		return n == 2 && number(0) && in(1, api.Integer, api.Char, api.Byte) && s.m.System
	}
	return x.N == api.StdCall && n == 1 && number(0) && s.m.System
}

func (s *soundness) operation(x api.Expr) bool {
	n, known := len(x.Kids), true
	for _, k := range x.Kids {
		known = known && k.Op == api.ELit && k.Type != api.Nil
	}
	if known || n == 0 || n > 2 || x.M != 0 || x.N != 0 { // of constants it would be one itself
		return false
	}
	a, b := x.Kids[0].Type, x.Kids[n-1].Type
	both := func(t int) bool { return a == t && b == t && x.Type == t }
	switch x.Op {
	case api.ENeg:
		return n == 1 && isNumber(a) && x.Type == api.Integer
	case api.ENot:
		return n == 1 && both(api.Boolean)
	case api.ECompl:
		return n == 1 && both(api.Set)
	case api.EAdd, api.ESub, api.EMul, api.EDiv, api.EMod:
		return n == 2 && isNumber(a) && isNumber(b) && x.Type == api.Integer
	case api.EUnion, api.EMinus, api.EInter, api.ESym:
		return n == 2 && both(api.Set)
	case api.EAnd, api.EOr:
		return n == 2 && both(api.Boolean)
	case api.EEq, api.ENe:
		return n == 2 && types.Compares(s.m.Types, a, b, false) && x.Type == api.Boolean
	case api.ELt, api.ELe, api.EGt, api.EGe:
		return n == 2 && types.Compares(s.m.Types, a, b, true) && x.Type == api.Boolean
	case api.EIn:
		return n == 2 && isNumber(a) && b == api.Set && x.Type == api.Boolean
	}
	return false
}
