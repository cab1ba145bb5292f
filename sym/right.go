package sym

import (
	"iter"
	"math"

	"carrel/api"
	"carrel/types"
)

// Right: is it what some module may show? (Its bytes are not counted: with the most of everything they are fewer than MaxObject.)
func Right(s api.Sym) bool {
	return isName(s.Name) &&
		each(s.Consts, api.MaxVars, isConst) &&
		each(s.Vars, api.MaxVars, isVar) &&
		each(s.Procs, api.MaxProcs, isProc) &&
		namesDiffer(s)
}

// each: are there at most so many, and is each one right?
func each[T any](row []T, most int, right func(T) bool) bool {
	if len(row) > most {
		return false
	}
	for _, one := range row {
		if !right(one) {
			return false
		}
	}
	return true
}

// names goes through those of all that is shown.
func names(s api.Sym) iter.Seq[string] {
	return func(yield func(string) bool) {
		for _, c := range s.Consts {
			if !yield(c.Name) {
				return
			}
		}
		for _, v := range s.Vars {
			if !yield(v.Name) {
				return
			}
		}
		for _, p := range s.Procs {
			if !yield(p.Name) {
				return
			}
		}
	}
}

func namesDiffer(s api.Sym) bool {
	seen := map[string]struct{}{}
	for name := range names(s) {
		if _, again := seen[name]; again {
			return false
		}
		seen[name] = struct{}{}
	}
	return true
}

func isLetter(c byte) bool { return 'a' <= c && c <= 'z' || 'A' <= c && c <= 'Z' }

func isDigit(c byte) bool { return '0' <= c && c <= '9' }

// isName: is it a NAME?
func isName(s string) bool {
	if len(s) < 1 || len(s) > api.MaxName || !isLetter(s[0]) {
		return false
	}
	for i := range len(s) {
		if !isLetter(s[i]) && !isDigit(s[i]) {
			return false
		}
	}
	return true
}

func isPlain(form int) bool { return api.Integer <= form && form <= api.Set }

// isResult: may it be a procedure's result, or that it has none?
func isResult(form int) bool { return form == api.NoType || isPlain(form) }

// values are the least and the greatest N of a constant; false, if none has that Type.
func values(form int) (int64, int64, bool) {
	switch form {
	case api.Integer:
		return math.MinInt32, math.MaxInt32, true
	case api.Boolean:
		return 0, 1, true
	case api.Char:
		return 0, math.MaxUint8, true
	case api.Set:
		return 0, math.MaxUint32, true
	case api.String:
		return 0, 0, true
	}
	return 0, 0, false
}

func isConstForm(form int) bool {
	_, _, ok := values(form)
	return ok
}

func isConst(c api.Const) bool {
	longest := 0
	if c.Type == api.String {
		longest = api.MaxStr
	}
	least, most, ok := values(c.Type)
	return ok && least <= c.N && c.N <= most && len(c.S) <= longest && c.Export && isName(c.Name)
}

func isVar(v api.SymVar) bool {
	return isPlain(v.Form) && 0 <= v.Len && v.Len <= api.MaxSize/types.Basic()[v.Form].Size &&
		!v.Open && !v.Ref && isName(v.Name)
}

func isParam(v api.SymVar) bool { return isPlain(v.Form) && v.Len == 0 && v.Name == "" }

func isProc(p api.SymProc) bool {
	return each(p.Params, api.MaxParams, isParam) && isResult(p.Result) && isName(p.Name)
}
