package check

import (
	"fmt"
	"strings"

	"carrel/api"
)

// What is made, as texts: an expression is its operation, the numbers that it has (M.N, or N), its type and its Kids.

var opNames = map[int]string{
	api.ELit: "#", api.EStr: "$", api.EGlobal: "g", api.ELocal: "l", api.EField: "field", api.EIndex: "index",
	api.EDeref: "deref", api.EGuard: "guard", api.EIs: "is", api.ENeg: "neg", api.ENot: "not", api.ECompl: "compl",
	api.EAdd: "add", api.ESub: "sub", api.EMul: "mul", api.EDiv: "div", api.EMod: "mod", api.EUnion: "union",
	api.EMinus: "minus", api.EInter: "inter", api.ESym: "sym", api.EAnd: "and", api.EOr: "or", api.EEq: "eq",
	api.ENe: "ne", api.ELt: "lt", api.ELe: "le", api.EGt: "gt", api.EGe: "ge", api.EIn: "in", api.ESet: "set",
	api.ESingle: "single", api.ERange: "range", api.ECall: "call", api.EStd: "std",
}

var stdNames = []string{"none", "ABS", "ODD", "LEN", "LSL", "ASR", "ROR", "ORD", "CHR", "INC", "DEC", "INCL", "EXCL",
	"NEW", "ASSERT", "EMIT", "TAKE", "HALT", "ADR", "GET", "PUT", "CALL"}

var statNames = map[int]string{
	api.SAssign: "assign", api.SString: "string", api.SCall: "do", api.SIf: "if", api.SWhile: "while",
	api.SRepeat: "repeat", api.SFor: "for",
}

func tellExpr(x api.Expr) string {
	name := opNames[x.Op]
	numbers := ""
	switch x.Op {
	case api.EGlobal, api.ECall:
		numbers = fmt.Sprintf("%d.%d", x.M, x.N)
	case api.ELit, api.EStr, api.ELocal, api.EField, api.EIs:
		numbers = fmt.Sprint(x.N)
	case api.EStd:
		name = stdNames[x.N]
	default:
		if x.N != 0 {
			numbers = fmt.Sprintf("!N%d", x.N) // it names none
		}
	}
	if x.M != 0 && x.Op != api.EGlobal && x.Op != api.ECall {
		numbers += fmt.Sprintf("!M%d", x.M)
	}
	s := fmt.Sprintf("%s%s:%d", name, numbers, x.Type)
	if len(x.Kids) > 0 {
		s += "(" + tellExprs(x.Kids) + ")"
	}
	return s
}

func tellExprs(l []api.Expr) string {
	var parts []string
	for _, x := range l {
		parts = append(parts, tellExpr(x))
	}
	return strings.Join(parts, " ")
}

func tellStat(x api.Stat) string {
	s := statNames[x.Op]
	if x.N != 0 || x.Op == api.SFor {
		s += fmt.Sprint(x.N)
	}
	s += "(" + tellExprs(x.Exprs) + ")"
	for _, b := range x.Blocks {
		s += "{" + tellStats(b) + "}"
	}
	return s
}

func tellStats(l []api.Stat) string {
	var parts []string
	for _, x := range l {
		parts = append(parts, tellStat(x))
	}
	return strings.Join(parts, "; ")
}

func tellVars(l []api.Var) string {
	var parts []string
	for _, x := range l {
		s := fmt.Sprintf("%s:%d", x.Name, x.Type)
		if x.Export {
			s += "*"
		}
		if x.Ref {
			s = "VAR " + s
		}
		parts = append(parts, s)
	}
	return strings.Join(parts, " ")
}

func tellConsts(l []api.Const) string {
	var parts []string
	for _, x := range l {
		s := fmt.Sprintf("%s:%d=%d", x.Name, x.Type, x.N)
		if x.S != "" {
			s += fmt.Sprintf("%q", x.S)
		}
		if x.Export {
			s += "*"
		}
		parts = append(parts, s)
	}
	return strings.Join(parts, " ")
}

func tellTypes(l []api.Type) string {
	var parts []string
	for _, x := range l[8:] {
		s := ""
		switch x.Form {
		case api.Array:
			s = fmt.Sprintf("array %d of %d", x.Len, x.Elem)
		case api.Open:
			s = fmt.Sprintf("open of %d", x.Elem)
		case api.Pointer:
			s = fmt.Sprintf("pointer to %d", x.Elem)
		case api.Record:
			s = fmt.Sprintf("record(%d)", x.Base)
			for _, f := range x.Fields {
				s += fmt.Sprintf(" %s:%d@%d", f.Name, f.Type, f.Off)
			}
		}
		parts = append(parts, s)
	}
	return strings.Join(parts, "; ")
}

func tellProc(p api.Proc) string {
	s := p.Name
	if p.Export {
		s += "*"
	}
	s += "(" + tellVars(p.Vars[:p.Params]) + ")"
	if p.Result != 0 {
		s += fmt.Sprintf(":%d", p.Result)
	}
	s += "[" + tellVars(p.Vars[p.Params:]) + "]{" + tellStats(p.Body) + "}"
	if len(p.Value) > 0 {
		s += tellExprs(p.Value)
	}
	return s
}

func tellProcs(l []api.Proc) string {
	var parts []string
	for _, x := range l {
		parts = append(parts, tellProc(x))
	}
	return strings.Join(parts, "; ")
}

// tell is a whole module but for its Syms; what it has none of is left out.
func tell(m api.Mod) string {
	s := m.Name
	if m.System {
		s += " system"
	}
	for _, x := range m.Imports {
		s += fmt.Sprintf(" import %s", x.Name)
		if x.Key != 0 {
			s += fmt.Sprintf("!%d", x.Key)
		}
	}
	add := func(word, part string) {
		if part != "" {
			s += " | " + word + " " + part
		}
	}
	add("strings", strings.Join(m.Strings, ","))
	add("consts", tellConsts(m.Consts))
	if len(m.Types) >= 8 {
		add("types", tellTypes(m.Types))
	}
	add("vars", tellVars(m.Vars))
	add("procs", tellProcs(m.Procs))
	add("init", tellStats(m.Init))
	return s
}
