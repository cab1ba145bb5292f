package check

import (
	"math"
	"slices"

	"carrel/api"
	"carrel/types"
)

// system is the module that each module may import without its being there.
const system = "SYSTEM"

func (c *checker) imported(n api.Node) {
	must(n.Text != c.mod.Name, n.At, api.ErrCheckTwice)
	if n.Text == system {
		c.mod.System = true
		c.declare(&c.names, n.Text, n.At, module{systemNames()})
		return
	}
	i := slices.IndexFunc(c.syms, func(s api.Sym) bool { return s.Name == n.Text })
	must(i >= 0 && c.mayImport(c.syms[i]), n.At, api.ErrCheckImport)
	must(len(c.mod.Imports) < api.MaxImports, n.At, api.ErrCheckMany)
	c.declare(&c.names, n.Text, n.At, module{c.shown(c.syms[i], n.At)})
	c.mod.Imports = append(c.mod.Imports, api.Import{Name: n.Text})
	c.mod.Syms = append(c.mod.Syms, copied(c.syms[i]))
}

func (c *checker) mayImport(s api.Sym) bool {
	for _, x := range s.Consts {
		if !isConst(x) {
			return false
		}
	}
	for _, x := range s.Vars {
		if !isPlain(x.Form) || x.Len < 0 || x.Len > api.MaxSize || x.Len*c.mod.Types[x.Form].Size > api.MaxSize || x.Open || x.Ref {
			return false
		}
	}
	for _, x := range s.Procs {
		if !isProc(x) {
			return false
		}
	}
	return true
}

func isConst(x api.Const) bool {
	switch x.Type {
	case api.Integer:
		return math.MinInt32 <= x.N && x.N <= math.MaxInt32
	case api.Boolean:
		return 0 <= x.N && x.N <= 1
	case api.Char:
		return 0 <= x.N && x.N <= math.MaxUint8
	case api.Set:
		return 0 <= x.N && x.N <= math.MaxUint32
	case api.String:
		return len(x.S) <= api.MaxStr
	}
	return false
}

func isProc(x api.SymProc) bool {
	for _, p := range x.Params {
		if !isPlain(p.Form) || p.Len != 0 {
			return false
		}
	}
	return len(x.Params) <= api.MaxParams && (x.Result == 0 || isPlain(x.Result))
}

// isPlain: is it a plain type's place, which is its form too?
func isPlain(t int) bool { return api.Integer <= t && t <= api.Set }

// shown is what names mean behind that of a module that is imported: the first of each name. The types that it needs are added.
func (c *checker) shown(s api.Sym, at int) scope {
	names := newScope()
	add := func(name string, m meaning) {
		if !names.has(name) {
			names.add(name, m)
		}
	}
	number := len(c.mod.Imports)
	for _, x := range s.Consts {
		add(x.Name, constantOf(x))
	}
	for i, x := range s.Vars {
		its := api.Expr{Op: api.EGlobal, Type: c.shownVar(x, at), M: number, N: int64(i)}
		add(x.Name, variable{value{its}, false})
	}
	for i, x := range s.Procs {
		p := procedure{module: number, number: i, result: x.Result}
		for _, param := range x.Params {
			p.params = append(p.params, api.Var{Type: c.shownParam(param, at), Ref: param.Ref})
		}
		add(x.Name, p)
	}
	return names
}

func (c *checker) shownVar(x api.SymVar, at int) int {
	if x.Len == 0 {
		return x.Form
	}
	row, t, e := types.AddArray(c.mod.Types, x.Len, x.Form)
	return c.added(at, row, t, e)
}

func (c *checker) shownParam(x api.SymVar, at int) int {
	if !x.Open {
		return x.Form
	}
	row, t, e := types.AddOpen(c.mod.Types, x.Form)
	return c.added(at, row, t, e)
}

func constantOf(x api.Const) meaning {
	if x.Type == api.String {
		return text(x.S)
	}
	return constant{x.Type, x.N}
}

// copied is symbols in memory of their own.
func copied(s api.Sym) api.Sym {
	s.Consts, s.Vars, s.Procs = slices.Clone(s.Consts), slices.Clone(s.Vars), slices.Clone(s.Procs)
	for i := range s.Procs {
		s.Procs[i].Params = slices.Clone(s.Procs[i].Params)
	}
	return s
}
