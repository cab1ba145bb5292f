package show

import (
	"fmt"
	"regexp"
	"strings"

	"carrel/api"
	"carrel/scan"
	"carrel/tree"
)

// This file tells plainly which trees are right and how they are written, for the package to be held against: Kids by patterns of
// their kinds' names, texts by putting whole texts together, what is open by reading these texts again.

var kinds = strings.Fields(`? Module Import Const Type Var Proc Param Result Ident Named Array Open Record Fields Pointer Block Assign Do If While
	Repeat For Return Int Char Str Nil Bool Set Range Name Field Index Deref Call Unary Binary`)

func kindOf(n api.Node) string {
	if n.Kind < 0 || n.Kind >= len(kinds) {
		return "?"
	}
	return kinds[n.Kind]
}

// patterns are those of the Kids, as DOC.md's rows have them: D is a designator, E an expression, T a type, S a statement.
const patterns = `
Module = Import* Const* Type* Var* Proc* Block?
Import =
Const = E
Type = T
Var = Ident+ T
Ident =
Proc = Param* Result? Const* Var* Block? Return?
Param = Ident+ P
Result =
Return = E
Named =
Array = E T
Open = Named
Record = Fields*
Fields = Ident+ T
Pointer = Named
Block = S*
Assign = D E
Do = D
If = B+ Block?
While = B+
Repeat = Block E
For = E E E? Block
Binary = E E
Unary = E
Int =
Char =
Str =
Nil =
Bool =
Set = M*
Range = E E
Name =
Field = D
Index = D E
Deref = D
Call = D E*
`

const (
	designators = "Name|Field|Index|Deref|Call"
	expressions = designators + "|Binary|Unary|Int|Char|Str|Nil|Bool|Set"
)

// groups are the words of patterns that stand for several kinds, or for a row of them.
var groups = map[string]string{
	"D": designators, "E": expressions, "T": "Named|Array|Record|Pointer", "P": "Named|Open", "S": "Assign|Do|If|While|Repeat|For",
	"M": expressions + "|Range",
}

var rowsOf = readPatterns()

func readPatterns() map[string]*regexp.Regexp {
	read := map[string]*regexp.Regexp{}
	for line := range strings.Lines(strings.TrimSpace(patterns)) {
		words := strings.Fields(line)
		var b strings.Builder
		for _, word := range words[2:] {
			one := strings.TrimRight(word, "*+?")
			group := "(?:" + one + ") "
			if some, ok := groups[one]; ok {
				group = "(?:" + some + ") "
			}
			if one == "B" {
				group = "(?:" + expressions + ") Block "
			}
			b.WriteString("(?:" + group + ")" + word[len(one):])
		}
		read[words[0]] = regexp.MustCompile("^" + b.String() + "$")
	}
	return read
}

func isOneOf(word, words string) bool { return strings.Contains(" "+words+" ", " "+word+" ") }

var aString = regexp.MustCompile(`\A[ !#-~]{0,200}\z`)

const signs = "= # < <= > >= IN IS + - OR * / DIV MOD &"

// plainFields: are Text, N and Flag such as the row says?
func plainFields(n api.Node) bool {
	text, least, most, flag := n.Text == "", int64(0), int64(0), false
	switch kind := kindOf(n); kind {
	case "Module", "Import", "Type", "Result", "Named", "For", "Name", "Field":
		text = scan.IsName(n.Text)
	case "Const", "Ident", "Proc":
		text, flag = scan.IsName(n.Text), true
	case "Param":
		flag = true
	case "Record":
		text = n.Text == "" || scan.IsName(n.Text)
	case "Int":
		least, most = -1<<31, 1<<31-1
	case "Char":
		most = 255
	case "Bool":
		most = 1
	case "Str":
		text = aString.MatchString(n.Text)
	case "Unary":
		text = n.Text == "+" || n.Text == "-" || n.Text == "~"
	case "Binary":
		text = n.Text != "" && !strings.Contains(n.Text, " ") && isOneOf(n.Text, signs)
	}
	return text && least <= n.N && n.N <= most && (flag || !n.Flag)
}

// plainShape: are all nodes such as their rows say, wherever the first one stands?
func plainShape(n api.Node) bool {
	row, ok := rowsOf[kindOf(n)]
	if !ok || !plainFields(n) {
		return false
	}
	var b strings.Builder
	for _, kid := range n.Kids {
		b.WriteString(kindOf(kid) + " ")
		if kid.Kind == api.NIdent && kid.Flag && n.Kind != api.NVar || !plainShape(kid) {
			return false
		}
	}
	return row.MatchString(b.String())
}

func plainParts(n api.Node) int {
	parts := 1
	for _, kid := range n.Kids {
		parts += plainParts(kid)
	}
	return parts
}

// plainModule is the one form of a tree; false: the tree is not right. (Of one whose form is longer than a source it can't tell.)
func plainModule(n api.Node) (string, bool) {
	if plainParts(n) > 20000 || n.Kind != api.NModule || !plainShape(n) {
		return "", false
	}
	s := plainLines(n)
	_, _, e := tree.Module(s)
	return s, e != api.ErrTreeDeep
}

func plainExpr(n api.Node) (string, bool) {
	if plainParts(n) > 20000 || !isOneOf(kindOf(n), strings.ReplaceAll(expressions, "|", " ")) || !plainShape(n) {
		return "", false
	}
	s := ranked(n, 0)
	_, _, e := tree.Expr(s)
	return s, e != api.ErrTreeDeep
}

// some are the Kids of a kind.
func some(n api.Node, kind int) []api.Node {
	var all []api.Node
	for _, kid := range n.Kids {
		if kid.Kind == kind {
			all = append(all, kid)
		}
	}
	return all
}

// joined are nodes as texts, with one between each two.
func joined(nodes []api.Node, between string, text func(api.Node) string) string {
	var all []string
	for _, n := range nodes {
		all = append(all, text(n))
	}
	return strings.Join(all, between)
}

// tabbed are lines with a tab more.
func tabbed(lines string) string {
	var b strings.Builder
	for line := range strings.Lines(lines) {
		b.WriteString("\t" + line)
	}
	return b.String()
}

func plainSection(key string, n api.Node, kind int, text func(api.Node) string) string {
	all := some(n, kind)
	if len(all) == 0 {
		return ""
	}
	return key + "\n" + tabbed(joined(all, ";\n", text)+";\n")
}

func plainLines(n api.Node) string {
	s := "MODULE " + n.Text + ";\n"
	if imports := some(n, api.NImport); len(imports) > 0 {
		s += "IMPORT " + joined(imports, ", ", plainName) + ";\n"
	}
	s += plainSection("CONST", n, api.NConst, plainDeclared)
	s += plainSection("TYPE", n, api.NType, plainDeclared)
	s += plainSection("VAR", n, api.NVar, plainDeclared)
	s += joined(some(n, api.NProc), "", plainProc)
	s += joined(some(n, api.NBlock), "", plainBody)
	return s + "END " + n.Text + ".\n"
}

func plainName(n api.Node) string {
	if n.Flag {
		return n.Text + "*"
	}
	return n.Text
}

func plainProc(n api.Node) string {
	params, results := some(n, api.NParam), some(n, api.NResult)
	s := "PROCEDURE " + plainName(n)
	if len(params)+len(results) > 0 {
		s += "(" + joined(params, "; ", plainDeclared) + ")"
	}
	s += joined(results, "", func(n api.Node) string { return ": " + n.Text }) + ";\n"
	s += tabbed(plainSection("CONST", n, api.NConst, plainDeclared))
	s += tabbed(plainSection("VAR", n, api.NVar, plainDeclared))
	s += joined(some(n, api.NBlock), "", plainBody)
	s += joined(some(n, api.NReturn), "", func(n api.Node) string { return "\tRETURN " + ranked(n.Kids[0], 0) + "\n" })
	return s + "END " + n.Text + ";\n"
}

func plainBody(n api.Node) string { return "BEGIN\n" + plainBlock(n) }

func plainBlock(n api.Node) string {
	if len(n.Kids) == 0 {
		return ""
	}
	return tabbed(joined(n.Kids, ";\n", plainStatement) + "\n")
}

// plainDeclared is a declaration, a parameter's or a field's too, or a type.
func plainDeclared(n api.Node) string {
	last := len(n.Kids) - 1
	switch kindOf(n) {
	case "Const":
		return plainName(n) + " = " + ranked(n.Kids[0], 0)
	case "Type":
		return n.Text + " = " + plainDeclared(n.Kids[0])
	case "Var", "Fields", "Param":
		s := joined(n.Kids[:last], ", ", plainName) + ": " + plainDeclared(n.Kids[last])
		if n.Flag {
			s = "VAR " + s
		}
		return s
	case "Array":
		return "ARRAY " + ranked(n.Kids[0], 0) + " OF " + plainDeclared(n.Kids[1])
	case "Open":
		return "ARRAY OF " + n.Kids[0].Text
	case "Pointer":
		return "POINTER TO " + n.Kids[0].Text
	case "Record":
		s := "RECORD "
		if n.Text != "" {
			s += "(" + n.Text + ") "
		}
		for k, one := range n.Kids {
			s += plainDeclared(one) + []string{" ", "; "}[min(1, last-k)]
		}
		return s + "END"
	}
	return n.Text
}

func plainStatement(n api.Node) string {
	k := n.Kids
	switch kindOf(n) {
	case "Assign":
		return ranked(k[0], 0) + " := " + ranked(k[1], 0)
	case "Do":
		return ranked(k[0], 0)
	case "Repeat":
		return "REPEAT\n" + plainBlock(k[0]) + "UNTIL " + ranked(k[1], 0)
	case "For":
		s := "FOR " + n.Text + " := " + ranked(k[0], 0) + " TO " + ranked(k[1], 0)
		if len(k) == 4 {
			s += " BY " + ranked(k[2], 0)
		}
		return s + " DO\n" + plainBlock(k[len(k)-1]) + "END"
	}
	s, word, behind := "", "IF ", " THEN\n"
	if n.Kind == api.NWhile {
		word, behind = "WHILE ", " DO\n"
	}
	for ; len(k) > 1; k = k[2:] {
		s += word + ranked(k[0], 0) + behind + plainBlock(k[1])
		word = "ELSIF "
	}
	if len(k) > 0 {
		s += "ELSE\n" + plainBlock(k[0])
	}
	return s + "END"
}

// table is the chapter's: how an expression ranks, and what it asks of its Kids.
func table(n api.Node) (int, int, int) {
	switch {
	case n.Kind == api.NBinary && isOneOf(n.Text, "= # < <= > >= IN IS"):
		return 1, 2, 2
	case n.Kind == api.NBinary && isOneOf(n.Text, "+ - OR"):
		return 2, 2, 3
	case n.Kind == api.NUnary && n.Text != "~":
		return 2, 3, 0
	case n.Kind == api.NBinary:
		return 3, 3, 4
	}
	return 4, 4, 0
}

// ranked is an expression where a rank is asked for.
func ranked(n api.Node, asked int) string {
	rank, first, second := table(n)
	s := ""
	switch n.Kind {
	case api.NBinary:
		s = ranked(n.Kids[0], first) + " " + n.Text + " " + ranked(n.Kids[1], second)
	case api.NUnary:
		s = n.Text + ranked(n.Kids[0], first)
	default:
		s = plainOperand(n)
	}
	if rank < asked {
		return "(" + s + ")"
	}
	return s
}

func plainOperand(n api.Node) string {
	within := func(n api.Node) string { return ranked(n, 0) }
	switch kindOf(n) {
	case "Int":
		if n.N < 0 {
			return fmt.Sprintf("0%08XH", uint32(n.N))
		}
		return fmt.Sprint(n.N)
	case "Char":
		s := fmt.Sprintf("%XX", n.N)
		if strings.Contains("ABCDEF", s[:1]) {
			s = "0" + s
		}
		return s
	case "Str":
		return `"` + n.Text + `"`
	case "Nil":
		return "NIL"
	case "Bool":
		return []string{"FALSE", "TRUE"}[n.N]
	case "Set":
		return "{" + joined(n.Kids, ", ", within) + "}"
	case "Range":
		return within(n.Kids[0]) + ".." + within(n.Kids[1])
	case "Field":
		return within(n.Kids[0]) + "." + n.Text
	case "Index":
		return within(n.Kids[0]) + "[" + within(n.Kids[1]) + "]"
	case "Deref":
		return within(n.Kids[0]) + "^"
	case "Call":
		return within(n.Kids[0]) + "(" + joined(n.Kids[1:], ", ", within) + ")"
	}
	return n.Text
}
