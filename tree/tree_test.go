package tree

import (
	"fmt"
	"strings"
	"testing"

	"carrel/api"
)

var kinds = strings.Fields(`? Module Import Const Type Var Proc Param Result Ident Named Array Open Record Fields Pointer Block Assign Do If While
	Repeat For Return Int Char Str Nil Bool Set Range Name Field Index Deref Call Unary Binary`)

// told is a tree as a text: of each node its Kind; its Text, its N behind =, its Flag as !, if they are not zero; its place behind @;
// and its Kids in brackets.
func told(n api.Node) string {
	var b strings.Builder
	b.WriteString(kinds[n.Kind])
	if n.Text != "" {
		b.WriteString(" " + n.Text)
	}
	if n.N != 0 {
		fmt.Fprintf(&b, "=%d", n.N)
	}
	if n.Flag {
		b.WriteString("!")
	}
	fmt.Fprintf(&b, "@%d", n.At)
	for k, kid := range n.Kids {
		b.WriteString([]string{"(", ", "}[min(k, 1)] + told(kid))
	}
	if len(n.Kids) > 0 {
		b.WriteString(")")
	}
	return b.String()
}

type face = func(string) (api.Node, int, api.Errno)

func reads(t *testing.T, read face, s, want string) {
	t.Helper()
	if n, at, e := read(s); told(n) != want || at != 0 || e != api.OK {
		t.Errorf("%.200q is %.600s, %d, %v; want %.600s", s, told(n), at, e, want)
	}
}

func isNone(n api.Node) bool {
	return n.Kind == 0 && n.Text == "" && n.N == 0 && !n.Flag && len(n.Kids) == 0 && n.At == 0
}

func refusesAt(t *testing.T, read face, s string, want int, fault api.Errno) {
	t.Helper()
	if n, at, e := read(s); !isNone(n) || at != want || e != fault {
		t.Errorf("%.200q is %.600s, %d, %v; want %d, %v", s, told(n), at, e, want, fault)
	}
}

// refuses has the place of the fault marked by a @ in the source, which is left out.
func refuses(t *testing.T, read face, marked string, fault api.Errno) {
	t.Helper()
	ahead, behind, ok := strings.Cut(marked, "@")
	if !ok {
		t.Fatalf("%q has no mark", marked)
	}
	refusesAt(t, read, ahead+behind, len(ahead), fault)
}

func TestTheChaptersExamples(t *testing.T) { // P9.1, P9.2
	reads(t, Expr, "a + b * c", "Binary +@2(Name a@0, Binary *@6(Name b@4, Name c@8))")
	reads(t, Expr, "-a + b", "Binary +@3(Unary -@0(Name a@1), Name b@5)")
	reads(t, Expr, "~a & b", "Binary &@3(Unary ~@0(Name a@1), Name b@5)")
	refuses(t, Expr, "a < b @< c", api.ErrTreeToken)
	reads(t, Expr, "p.f[1, 2]^", "Deref@9(Index@3(Index@3(Field f@1(Name p@0), Int=1@4), Int=2@7))")
	reads(t, Expr, "{1, 3..5}", "Set@0(Int=1@1, Range@5(Int=3@4, Int=5@7))")
	reads(t, Expr, "f(1)", "Call@1(Name f@0, Int=1@2)")
	refuses(t, Expr, "a + @-b", api.ErrTreeToken)
	reads(t, Module, "MODULE A; END A.", "Module A@0")
	refuses(t, Module, "MODULE A; END @B.", api.ErrTreeName)
	reads(t, Module, "MODULE A; VAR x, y*: INTEGER; BEGIN x := 1; ; y := x END A.",
		"Module A@0(Var@14(Ident x@14, Ident y!@17, Named INTEGER@21), Block@36(Assign@36(Name x@36, Int=1@41), Assign@46(Name y@46, Name x@51)))")
	reads(t, Module, "MODULE A; PROCEDURE P(VAR a: ARRAY OF CHAR): INTEGER; RETURN 1 END P; END A.",
		"Module A@0(Proc P@10(Param!@22(Ident a@26, Open@29(Named CHAR@38)), Result INTEGER@45, Return@54(Int=1@61)))")
}

func TestOperands(t *testing.T) { // P9.2, P9.3
	for s, want := range map[string]string{
		"0": "Int@0", " 7 ": "Int=7@1", "007": "Int=7@0", "0FFFFFFFFH": "Int=-1@0", "080000000H": "Int=-2147483648@0", "2147483647": "Int=2147483647@0",
		"0X": "Char@0", "41X": "Char=65@0", "0FFX": "Char=255@0",
		`""`: "Str@0", `"a b"`: "Str a b@0", `"END"`: "Str END@0", `"+"`: "Str +@0", `"x"`: "Str x@0",
		"NIL": "Nil@0", "TRUE": "Bool=1@0", "FALSE": "Bool@0",
		"{}": "Set@0", "{a}": "Set@0(Name a@1)", "{1..2}": "Set@0(Range@2(Int=1@1, Int=2@4))",
		"{a..b, c, d..e}":                      "Set@0(Range@2(Name a@1, Name b@4), Name c@7, Range@11(Name d@10, Name e@13))",
		"{{}..{}}":                             "Set@0(Range@3(Set@1, Set@5))",
		"{a<b..c=d}":                           "Set@0(Range@4(Binary <@2(Name a@1, Name b@3), Binary =@7(Name c@6, Name d@8)))",
		"x":                                    "Name x@0",
		"End":                                  "Name End@0",
		"INTEGER":                              "Name INTEGER@0",
		"(x)":                                  "Name x@1",
		"((1))":                                "Int=1@2",
		"(a+b)*(c)":                            "Binary *@5(Binary +@2(Name a@1, Name b@3), Name c@7)",
		"a.b":                                  "Field b@1(Name a@0)",
		"a.b.c":                                "Field c@3(Field b@1(Name a@0))",
		"a[1]":                                 "Index@1(Name a@0, Int=1@2)",
		"a[1][2]":                              "Index@4(Index@1(Name a@0, Int=1@2), Int=2@5)",
		"a[i, j, k]":                           "Index@1(Index@1(Index@1(Name a@0, Name i@2), Name j@5), Name k@8)",
		"a^":                                   "Deref@1(Name a@0)",
		"a^^.b^":                               "Deref@5(Field b@3(Deref@2(Deref@1(Name a@0))))",
		"f()":                                  "Call@1(Name f@0)",
		"f(1, a+b, {})":                        "Call@1(Name f@0, Int=1@2, Binary +@6(Name a@5, Name b@7), Set@10)",
		"p(T).x[i,j]^":                         "Deref@11(Index@6(Index@6(Field x@4(Call@1(Name p@0, Name T@2)), Name i@7), Name j@9))",
		"f(1)(2)":                              "Call@4(Call@1(Name f@0, Int=1@2), Int=2@5)",
		"M.f(g(x)^, y)":                        "Call@3(Field f@1(Name M@0), Deref@8(Call@5(Name g@4, Name x@6)), Name y@11)",
		"a (* remark *) . (**) b \n [ i ] \t^": "Deref@33(Index@26(Field b@15(Name a@0), Name i@28))",
	} {
		reads(t, Expr, s, want)
	}
}

// Each sign between two, and each two of them in a row.
func TestSignsBetween(t *testing.T) { // P9.2
	ranks := []string{"= # < <= > >= IN IS", "+ - OR", "* / DIV MOD &"}
	for low, lows := range ranks {
		for _, first := range strings.Fields(lows) {
			reads(t, Expr, "a "+first+" b", "Binary "+first+"@2(Name a@0, Name b@"+fmt.Sprint(3+len(first))+")")
			for high, highs := range ranks {
				for _, second := range strings.Fields(highs) {
					s := "a " + first + " b " + second + " c"
					b, at, c := 3+len(first), 5+len(first), 6+len(first)+len(second)
					switch {
					case low == 0 && high == 0:
						refusesAt(t, Expr, s, at, api.ErrTreeToken)
					case high > low:
						reads(t, Expr, s, fmt.Sprintf("Binary %s@2(Name a@0, Binary %s@%d(Name b@%d, Name c@%d))", first, second, at, b, c))
					default:
						reads(t, Expr, s, fmt.Sprintf("Binary %s@%d(Binary %s@2(Name a@0, Name b@%d), Name c@%d)", second, at, first, b, c))
					}
				}
			}
		}
	}
}

func TestSignsAhead(t *testing.T) { // P9.2
	for s, want := range map[string]string{
		"-a": "Unary -@0(Name a@1)", "+a": "Unary +@0(Name a@1)", "~a": "Unary ~@0(Name a@1)", "~~a": "Unary ~@0(Unary ~@1(Name a@2))",
		"-1": "Unary -@0(Int=1@1)", "-(a)": "Unary -@0(Name a@2)", "-~a": "Unary -@0(Unary ~@1(Name a@2))", "~(-a)": "Unary ~@0(Unary -@2(Name a@3))",
		"-a*b":        "Unary -@0(Binary *@2(Name a@1, Name b@3))",
		"-a*b*c":      "Unary -@0(Binary *@4(Binary *@2(Name a@1, Name b@3), Name c@5))",
		"-a*b-c":      "Binary -@4(Unary -@0(Binary *@2(Name a@1, Name b@3)), Name c@5)",
		"-a<-b":       "Binary <@2(Unary -@0(Name a@1), Unary -@3(Name b@4))",
		"+a IN -b+c":  "Binary IN@3(Unary +@0(Name a@1), Binary +@8(Unary -@6(Name b@7), Name c@9))",
		"~a*~b":       "Binary *@2(Unary ~@0(Name a@1), Unary ~@3(Name b@4))",
		"a+~b":        "Binary +@1(Name a@0, Unary ~@2(Name b@3))",
		"~a.b[1]^(c)": "Unary ~@0(Call@8(Deref@7(Index@4(Field b@2(Name a@1), Int=1@5)), Name c@9))",
		"~a=b":        "Binary =@2(Unary ~@0(Name a@1), Name b@3)",
		"f(-a,+b)":    "Call@1(Name f@0, Unary -@2(Name a@3), Unary +@5(Name b@6))",
		"{-1..+2}":    "Set@0(Range@3(Unary -@1(Int=1@2), Unary +@5(Int=2@6)))",
		"a[-1]":       "Index@1(Name a@0, Unary -@2(Int=1@3))",
	} {
		reads(t, Expr, s, want)
	}
	for _, s := range []string{"-@-a", "+@-a", "~@-a", "~@+a", "a*@-b", "a-@-b", "a OR @+b", "a & @-b", "a = @= b", "-@", "~@", "~@)"} {
		refuses(t, Expr, s, api.ErrTreeToken)
	}
}

func TestExpressionsThatCannotGoOn(t *testing.T) { // P9.2
	for _, s := range []string{
		"@", " (* a *) @", "@)", "@END", "@;", "@]", "@}", "@..", "@,", "@*", "@/ a", "@& a", "@=", "@.", "@^", "@:=", "@|", "@IF", "@ARRAY 1 OF a",
		"a @a", "a @1", "1 @a", "a @;", "a @:= b", "a @.. b", "a@, b", "a @)", "a @]", "a @}", "a @: b", "a @| b", "a @END", "a @MODULE", "a @NIL", "a @\"+\" b", "a @~b",
		"a +@", "a + @)", "a * @+ b", "a DIV @MOD b", "a = @", "a < b @> c", "a IN b @IS c", "a OR @OR b", "a + \"b\" @\"c\"",
		"(@", "(@)", "(a@", "(a @b)", "(a@, b)", "(a @] ", "(a)@(b)", "(a)@.b", "(a)@^", "(a)@[1]", "((a)@", "(a @:= b)", "(a @.. b)",
		"1@.2", "1@.a", "1@^", "1@[1]", "1@(2)", "\"a\"@[0]", "\"a\"@.b", "NIL@^", "TRUE@.b", "{1}@[0]", "{}@^", "41X@(1)",
		"a.@", "a.@1", "a.@END", "a.@[1]", "a. @.b", "a@..b", "a.@\"b\"", "a.@NIL", "a.b @c",
		"a[@", "a[@]", "a[1@", "a[1@)", "a[1, @]", "a[1,@", "a[@, 1]", "a[1@..2]", "a[1@;2]", "a[1 @2]",
		"f(@", "f(1@", "f(@,", "f(@,1)", "f(1,@)", "f(1, @,", "f(1@]", "f(1@;2)", "f(1@..2)", "f(a@: b)", "f(1 @2)",
		"{@", "{1@", "{1,@}", "{@,1}", "{1..@}", "{1..@, 2}", "{1..2@..3}", "{@..1}", "{1@;2}", "{1@)", "{1 @2}",
		"a^@b", "a^@1", "a ^ @\"x\"",
	} {
		refuses(t, Expr, s, api.ErrTreeToken)
	}
}

func TestModulesParts(t *testing.T) { // P9.1, P9.3
	for s, want := range map[string]string{
		"MODULE M; END M.":                                      "Module M@0",
		"\n(* x *) MODULE  M ;END M . (* y *)":                  "Module M@9",
		"MODULE M; IMPORT A; END M.":                            "Module M@0(Import A@17)",
		"MODULE M; IMPORT A, SYSTEM, M; END M.":                 "Module M@0(Import A@17, Import SYSTEM@20, Import M@28)",
		"MODULE M; CONST END M.":                                "Module M@0",
		"MODULE M; CONST TYPE VAR END M.":                       "Module M@0",
		"MODULE M; CONST a = 1; b* = a + 1; END M.":             "Module M@0(Const a@16(Int=1@20), Const b!@23(Binary +@30(Name a@28, Int=1@32)))",
		"MODULE M; TYPE T = CHAR; END M.":                       "Module M@0(Type T@15(Named CHAR@19))",
		"MODULE M; TYPE T = POINTER TO R; END M.":               "Module M@0(Type T@15(Pointer@19(Named R@30)))",
		"MODULE M; TYPE T = ARRAY 3 OF CHAR; END M.":            "Module M@0(Type T@15(Array@19(Int=3@25, Named CHAR@30)))",
		"MODULE M; TYPE T = ARRAY 2, n+1, 4 OF T; END M.":       "Module M@0(Type T@15(Array@19(Int=2@25, Array@19(Binary +@29(Name n@28, Int=1@30), Array@19(Int=4@33, Named T@38)))))",
		"MODULE M; TYPE T = ARRAY 1 OF ARRAY 2, 3 OF T; END M.": "Module M@0(Type T@15(Array@19(Int=1@25, Array@30(Int=2@36, Array@30(Int=3@39, Named T@44)))))",
		"MODULE M; TYPE T = RECORD END; END M.":                 "Module M@0(Type T@15(Record@19))",
		"MODULE M; TYPE T = RECORD (B) END; END M.":             "Module M@0(Type T@15(Record B@19))",
		"MODULE M; TYPE T = RECORD a, b: U; c: ARRAY 2 OF RECORD d: POINTER TO T END END; END M.": "Module M@0(Type T@15(Record@19(Fields@26(Ident a@26, Ident b@29, Named U@32), Fields@35(Ident c@35, " +
			"Array@38(Int=2@44, Record@49(Fields@56(Ident d@56, Pointer@59(Named T@70))))))))",
		"MODULE M; TYPE T = RECORD (B) a: C END; END M.": "Module M@0(Type T@15(Record B@19(Fields@30(Ident a@30, Named C@33))))",
		"MODULE M; VAR a: T; b*, c, d*: U; END M.":       "Module M@0(Var@14(Ident a@14, Named T@17), Var@20(Ident b!@20, Ident c@24, Ident d!@27, Named U@31))",
		"MODULE M; VAR a: RECORD END; END M.":            "Module M@0(Var@14(Ident a@14, Record@17))",
		"MODULE M; BEGIN END M.":                         "Module M@0(Block@16)",
		"MODULE M; BEGIN ; ;; END M.":                    "Module M@0(Block@16)",
		"MODULE M; BEGIN P END M.":                       "Module M@0(Block@16(Do@16(Name P@16)))",
		"MODULE M; BEGIN ;P END M.":                      "Module M@0(Block@16(Do@17(Name P@17)))",
		"MODULE M; IMPORT A; CONST b = 1; TYPE C = D; VAR e: F; PROCEDURE P; END P; BEGIN Q END M.": "Module M@0(Import A@17, Const b@26(Int=1@30), Type C@38(Named D@42), Var@49(Ident e@49, Named F@52), " +
			"Proc P@55, Block@81(Do@81(Name Q@81)))",
	} {
		reads(t, Module, s, want)
	}
}

func TestProcedures(t *testing.T) { // P9.1, P9.3
	for s, want := range map[string]string{
		"PROCEDURE P; END P;":              "Proc P@0",
		"PROCEDURE P*; END P;":             "Proc P!@0",
		"PROCEDURE P(); END P;":            "Proc P@0",
		"PROCEDURE P*(): R; END P;":        "Proc P!@0(Result R@16)",
		"PROCEDURE P(a: T); END P;":        "Proc P@0(Param@12(Ident a@12, Named T@15))",
		"PROCEDURE P(VAR a, b: T); END P;": "Proc P@0(Param!@12(Ident a@16, Ident b@19, Named T@22))",
		"PROCEDURE P(a: ARRAY OF T; VAR b: ARRAY OF T; c: U): V; END P;": "Proc P@0(Param@12(Ident a@12, Open@15(Named T@24)), Param!@27(Ident b@31, Open@34(Named T@43)), " +
			"Param@46(Ident c@46, Named U@49), Result V@53)",
		"PROCEDURE P; CONST a = 1; b* = 2; VAR c*, d: T; END P;": "Proc P@0(Const a@19(Int=1@23), Const b!@26(Int=2@31), Var@38(Ident c!@38, Ident d@42, Named T@45))",
		"PROCEDURE P; CONST VAR BEGIN END P;":                    "Proc P@0(Block@29)",
		"PROCEDURE P; BEGIN RETURN 1 END P;":                     "Proc P@0(Block@19, Return@19(Int=1@26))",
		"PROCEDURE P; BEGIN a; RETURN -a END P;":                 "Proc P@0(Block@19(Do@19(Name a@19)), Return@22(Unary -@29(Name a@30)))",
		"PROCEDURE P; BEGIN a := b RETURN c END P;":              "Proc P@0(Block@19(Assign@19(Name a@19, Name b@24)), Return@26(Name c@33))",
		"PROCEDURE P; RETURN NIL END P;":                         "Proc P@0(Return@13(Nil@20))",
		"PROCEDURE P; END P; PROCEDURE Q; END Q;":                "Proc P@0, Proc Q@20",
	} {
		reads(t, declared, s, "Module M@0("+want+")")
	}
}

// declared reads a module's declarations, whose places then begin at 0.
func declared(s string) (api.Node, int, api.Errno) {
	const head, tail = "MODULE M; ", " END M."
	n, at, e := Module(head + s + tail)
	move(&n, -len(head))
	n.At = 0
	return n, at, e
}

func move(n *api.Node, by int) {
	n.At += by
	for k := range n.Kids {
		move(&n.Kids[k], by)
	}
}

// inBlock reads statements, whose places then begin at 0, and has their Block alone.
func inBlock(s string) (api.Node, int, api.Errno) {
	const head, tail = "MODULE M; BEGIN ", " END M."
	n, at, e := Module(head + s + tail)
	if e != api.OK {
		return n, at - len(head), e
	}
	block := n.Kids[0]
	move(&block, -len(head))
	return block, at, e
}

func TestStatements(t *testing.T) { // P9.1, P9.3
	for s, want := range map[string]string{
		"a := b":                                "Block@0(Assign@0(Name a@0, Name b@5))",
		"p.q[i]^ := -1":                         "Block@0(Assign@0(Deref@6(Index@3(Field q@1(Name p@0), Name i@4)), Unary -@11(Int=1@12)))",
		"p(T).x := 1":                           "Block@0(Assign@0(Field x@4(Call@1(Name p@0, Name T@2)), Int=1@10))",
		"f(x) := 1":                             "Block@0(Assign@0(Call@1(Name f@0, Name x@2), Int=1@8))",
		"P; M.P; P(); M.P(1)":                   "Block@0(Do@0(Name P@0), Do@3(Field P@4(Name M@3)), Do@8(Call@9(Name P@8)), Do@13(Call@16(Field P@14(Name M@13), Int=1@17)))",
		"a[1]; a^":                              "Block@0(Do@0(Index@1(Name a@0, Int=1@2)), Do@6(Deref@7(Name a@6)))",
		"a:=b=c":                                "Block@0(Assign@0(Name a@0, Binary =@4(Name b@3, Name c@5)))",
		"IF a THEN END":                         "Block@0(If@0(Name a@3, Block@10))",
		"IF a THEN b ELSE c END":                "Block@0(If@0(Name a@3, Block@10(Do@10(Name b@10)), Block@17(Do@17(Name c@17))))",
		"IF a THEN ELSIF b THEN ELSE END":       "Block@0(If@0(Name a@3, Block@10, Name b@16, Block@23, Block@28))",
		"IF a<b THEN ; ELSIF c THEN d; END":     "Block@0(If@0(Binary <@4(Name a@3, Name b@5), Block@12, Name c@20, Block@27(Do@27(Name d@27))))",
		"WHILE a DO END":                        "Block@0(While@0(Name a@6, Block@11))",
		"WHILE a DO b ELSIF c DO d; e END; f":   "Block@0(While@0(Name a@6, Block@11(Do@11(Name b@11)), Name c@19, Block@24(Do@24(Name d@24), Do@27(Name e@27))), Do@34(Name f@34))",
		"REPEAT UNTIL a":                        "Block@0(Repeat@0(Block@7, Name a@13))",
		"REPEAT a; b UNTIL c OR d; e":           "Block@0(Repeat@0(Block@7(Do@7(Name a@7), Do@10(Name b@10)), Binary OR@20(Name c@18, Name d@23)), Do@26(Name e@26))",
		"REPEAT REPEAT UNTIL a UNTIL b":         "Block@0(Repeat@0(Block@7(Repeat@7(Block@14, Name a@20)), Name b@28))",
		"FOR i := 0 TO n DO END":                "Block@0(For i@0(Int@9, Name n@14, Block@19))",
		"FOR i := -1 TO a+b BY -2 DO P; END":    "Block@0(For i@0(Unary -@9(Int=1@10), Binary +@16(Name a@15, Name b@17), Unary -@22(Int=2@23), Block@28(Do@28(Name P@28))))",
		"(* a *) IF a THEN (* b *) (**)\tb END": "Block@8(If@8(Name a@11, Block@31(Do@31(Name b@31))))",
		"IF a THEN WHILE b DO REPEAT FOR i := 1 TO 2 DO x END UNTIL c END END": "Block@0(If@0(Name a@3, Block@10(While@10(Name b@16, Block@21(Repeat@21(Block@28(For i@28(Int=1@37, Int=2@42, Block@47(Do@47(Name x@47)))), Name c@59))))))",
	} {
		reads(t, inBlock, s, want)
	}
}

func TestModulesThatCannotGoOn(t *testing.T) { // P9.1
	for _, s := range []string{
		"@", "@M", "@module M; END M.", "@;", "@\"MODULE\"", "@BEGIN", "@(", "(* *) @1",
		"MODULE @", "MODULE @;", "MODULE @1", "MODULE @MODULE", "MODULE @\"M\"; END M.", "MODULE @END; END END.", "MODULE M@", "MODULE M @END M.", "MODULE M@.", "MODULE M@*; END M.", "MODULE M@: END M.",
		"MODULE M; @", "MODULE M; @;", "MODULE M; @M", "MODULE M; @\"END\"", "MODULE M; @x := 1", "MODULE M; @RETURN 1", "MODULE M; @.", "MODULE M; @IF", "MODULE M; @RECORD", "MODULE M; @(", "MODULE M; @MODULE",
		"MODULE M; IMPORT @; END M.", "MODULE M; IMPORT A@", "MODULE M; IMPORT A @END M.", "MODULE M; IMPORT A,@; END M.", "MODULE M; IMPORT A @B; END M.", "MODULE M; IMPORT A @:= B; END M.",
		"MODULE M; IMPORT @END", "MODULE M; IMPORT A; @IMPORT B; END M.", "MODULE M; IMPORT A@.B; END M.", "MODULE M; IMPORT A@*; END M.", "MODULE M; CONST @IMPORT A; END M.", "MODULE M; IMPORT A; @;",
		"MODULE M; CONST @1", "MODULE M; CONST @;", "MODULE M; CONST a @: 1", "MODULE M; CONST a @1", "MODULE M; CONST a @:= 1", "MODULE M; CONST a @; ", "MODULE M; CONST a @, b", "MODULE M; CONST a*@*", "MODULE M; CONST a = @;",
		"MODULE M; CONST a = 1@, b = 2;", "MODULE M; CONST a = 1 @END M.", "MODULE M; CONST a = 1; @;", "MODULE M; CONST a = 1; @CONST b = 1; END M.", "MODULE M; CONST a = @ARRAY 1 OF b; END M.", "MODULE M; CONST a = 1 = 2 @= 3",
		"MODULE M; TYPE @CONST", "MODULE M; TYPE a@* = b;", "MODULE M; TYPE a @: b;", "MODULE M; TYPE a = @;", "MODULE M; TYPE a = b@.c;", "MODULE M; TYPE a = @1;", "MODULE M; TYPE a = @(b);", "MODULE M; TYPE a = b @b;", "MODULE M; TYPE a@, b",
		"MODULE M; TYPE a = b; @TYPE", "MODULE M; TYPE a = @PROCEDURE", "MODULE M; TYPE a = b @END M.",
		"MODULE M; VAR @TYPE", "MODULE M; VAR @CONST", "MODULE M; VAR a @= b;", "MODULE M; VAR a @b: c;", "MODULE M; VAR a,@: c;", "MODULE M; VAR a: @;", "MODULE M; VAR a*@*", "MODULE M; VAR a: b@, c: d;", "MODULE M; VAR a: b; @VAR", "MODULE M; VAR a: b @BEGIN",
		"MODULE M; VAR a: T; @TYPE b = c; END M.", "MODULE M; PROCEDURE P; END P; @VAR a: b; END M.", "MODULE M; PROCEDURE P; END P; @CONST", "MODULE M; PROCEDURE P; END P @END M.",
		"MODULE M; BEGIN @PROCEDURE P; END P; END M.", "MODULE M; BEGIN @VAR", "MODULE M; BEGIN @BEGIN", "MODULE M; BEGIN ; @RETURN 1 END M.", "MODULE M; BEGIN a @RETURN 1 END M.", "MODULE M; BEGIN @1", "MODULE M; BEGIN @\"IF\"", "MODULE M; BEGIN @.",
		"MODULE M; END @", "MODULE M; END @.", "MODULE M; END @\"M\".", "MODULE M; END @;", "MODULE M; END M@", "MODULE M; END M@;", "MODULE M; END M@..", "MODULE M; END M. @.", "MODULE M; END M. @M", "MODULE M; END M.@;", "MODULE M; END M. @MODULE", "MODULE M; END M.(**)@\"\"",
	} {
		refuses(t, Module, s, api.ErrTreeToken)
	}
}

func TestTypesThatCannotGoOn(t *testing.T) { // P9.1
	for _, s := range []string{
		"@;", "@1", "@OF", "@END", "@\"T\"", "@^T", "@VAR", "T@*", "T@^", "T@.U", "T@(", "T @OF U", "T@, U",
		"ARRAY @OF T", "ARRAY @;", "ARRAY 1 @T", "ARRAY 1, @OF T", "ARRAY 1 @2 OF T", "ARRAY 1@..2 OF T", "ARRAY 1@; ", "ARRAY 1 OF @;", "ARRAY 1 OF @1", "ARRAY 1 OF T@, U", "ARRAY 1 OF T @OF", "ARRAY @[1] OF T",
		"ARRAY 1 OF @OF", "ARRAY 1 OF ARRAY @OF T", "ARRAY 1,@, 2 OF T", "ARRAY 1 @: T", "ARRAY (1@, 2)",
		"POINTER @T", "POINTER TO @;", "POINTER TO @RECORD END", "POINTER TO @POINTER TO T", "POINTER TO @ARRAY 1 OF T", "POINTER TO T@^", "POINTER @OF T", "POINTER TO T@.U", "POINTER TO @1",
		"RECORD @;", "RECORD @1", "RECORD (@) END", "RECORD (@1) END", "RECORD (B@.C) END", "RECORD (B@, C) END", "RECORD (B) @(C) END", "RECORD (B @END", "RECORD (B) @; END", "RECORD @, END",
		"RECORD a @END", "RECORD a: @END", "RECORD a: T; @END", "RECORD a: T;@; b: U END", "RECORD a@*: T END", "RECORD a, b@*: T END", "RECORD a, @: T END", "RECORD a: T@, U END", "RECORD a: T @b: U END", "RECORD a: T@. END", "RECORD a @= T END",
		"RECORD a: ARRAY @OF T END", "RECORD @VAR a: T END", "RECORD a: @(T) END", "RECORD END @END", "RECORD END @T", "RECORD END@, T", "RECORD @BEGIN END", "RECORD a: T @UNTIL",
	} {
		refuses(t, Module, "MODULE M; VAR v: "+s, api.ErrTreeToken)
		refuses(t, Module, "MODULE M; TYPE U = CHAR; V = "+s, api.ErrTreeToken)
		refuses(t, Module, "MODULE M; PROCEDURE P; VAR w: "+s, api.ErrTreeToken)
	}
}

func TestProceduresThatCannotGoOn(t *testing.T) { // P9.1
	for _, s := range []string{
		"@;", "@(", "@*P", "@1", "@\"P\"", "P @END P", "P*@*", "P@: T", "P@. ", "P@, Q", "P(@", "P(@,", "P(@;", "P(@1", "P(VAR @)", "P(VAR @VAR", "P(a@)", "P(a@;", "P(a@*: T", "P(VAR a@*: T", "P(a, b@*: T", "P(a,@:",
		"P(a: @)", "P(a: T@, b: U)", "P(a: T; @)", "P(a: T;@; b: U)", "P(a: T @VAR b: U)", "P(a: @RECORD END)", "P(a: @POINTER TO T)", "P(a: ARRAY @1 OF T)", "P(a: ARRAY OF @ARRAY OF T)", "P(a: ARRAY OF @RECORD", "P(a: ARRAY OF T@, b",
		"P(a: T@.U)", "P(a: T@]", "P() @T", "P() @END", "P()@*; END P", "P(): @;", "P(): @ARRAY OF T", "P(): @POINTER TO T", "P(): T@.U", "P(): T @END", "P(): T@, U", "P()@(", "P(a @= T)", "P(a: @(T)", "P(a @T)", "P(@CONST",
		"P; @TYPE T = U", "P; @PROCEDURE Q", "P; @;", "P; @a := 1", "P; @IMPORT A", "P; VAR a: T; @CONST", "P; VAR a: T; @TYPE", "P; VAR a: T; @PROCEDURE", "P; CONST @TYPE", "P; CONST a = 1; a @:= 2", "P; VAR @VAR",
		"P; BEGIN @CONST", "P; BEGIN @PROCEDURE", "P; BEGIN @BEGIN", "P; RETURN 1 @BEGIN", "P; RETURN @", "P; RETURN @END P", "P; RETURN 1@; END P", "P; RETURN 1 @RETURN 2", "P; RETURN 1@, 2", "P; RETURN @;", "P; BEGIN RETURN 1@;", "P; BEGIN RETURN a @:= 1",
		"P; BEGIN IF a THEN @RETURN 1 END END P", "P; BEGIN WHILE a DO @RETURN 1", "P; BEGIN REPEAT b @RETURN 1", "P; BEGIN IF a THEN ELSE ; @RETURN 1", "P; @RECORD",
		"P; END @", "P; END @;", "P; END @\"P\"", "P; END P@.", "P; END P @END M.", "P; END P@*;", "P; END P; @;", "P; END P; @a", "P; END P; @P;",
	} {
		refuses(t, Module, "MODULE M; PROCEDURE "+s, api.ErrTreeToken)
		refuses(t, Module, "MODULE M; VAR x: T; PROCEDURE Q; END Q; PROCEDURE "+s, api.ErrTreeToken)
	}
}

func TestStatementsThatCannotGoOn(t *testing.T) { // P9.1
	for _, s := range []string{
		"@,", "@1", "@(a)", "@~a", "@-a := 1", "@\"a\"", "@NIL", "@TRUE", "@THEN", "@ELSE END", "@ELSIF", "@UNTIL a", "@DO", "@TO", "@BY", "@OF", "@:= 1", "@= 1", "@^", "@{1}", "@*", "@|",
		"a @b", "a @= b", "a @: b", "a := @", "a := @;", "a := b @:= c", "a := @:= b", "a@, b := c", "a @1", "a := 1 @a := 2", "a @+ b", "a := @END", "a.@:= 1", "a @THEN", "a := b @THEN", "a := b @ELSE", "f(@;", "a @\"b\"",
		"IF @THEN", "IF a @DO", "IF a @END", "IF a THEN @UNTIL", "IF a THEN ELSIF @THEN", "IF a THEN ELSIF b @DO", "IF a THEN ELSE @ELSE", "IF a THEN ELSE @ELSIF b THEN END", "IF a THEN b @THEN", "IF a@; THEN", "IF a @:= b THEN",
		"IF a THEN b ELSE c @d END", "IF a THEN END @IF", "IF a THEN END @a", "IF a THEN @DO", "IF @IF", "IF a @ELSE",
		"WHILE @DO", "WHILE a @THEN", "WHILE a @END", "WHILE a DO @ELSE END", "WHILE a DO b @ELSE c END", "WHILE a DO ELSIF b @THEN", "WHILE a DO ELSIF b DO @ELSE", "WHILE a DO @UNTIL b", "WHILE a DO @DO", "WHILE a DO END @WHILE",
		"REPEAT @END", "REPEAT a @END", "REPEAT @ELSE", "REPEAT @ELSIF", "REPEAT UNTIL @;", "REPEAT UNTIL @END", "REPEAT UNTIL a @DO", "REPEAT UNTIL a @UNTIL b", "REPEAT a @REPEAT", "REPEAT UNTIL a @b", "REPEAT UNTIL a @:= b",
		"FOR @1", "FOR @:=", "FOR @(i)", "FOR i @= 1", "FOR i @TO", "FOR i@.j := 1", "FOR i@[1] := 1", "FOR i := @TO", "FOR i := 1 @DO", "FOR i := 1 @BY 2", "FOR i := 1 TO @DO", "FOR i := 1 TO 2 @TO 3", "FOR i := 1 TO 2 BY @DO", "FOR i := 1 TO 2 BY 3 @BY 4", "FOR i := 1 TO 2 @END",
		"FOR i := 1 TO 2 DO @ELSIF", "FOR i := 1 TO 2 DO @ELSE", "FOR i := 1 TO 2 DO @UNTIL", "FOR i := 1 TO 2 BY 3 @THEN", "FOR i@, j := 1", "FOR i := 1@, 2",
	} {
		refuses(t, Module, "MODULE M; BEGIN "+s, api.ErrTreeToken)
		refuses(t, Module, "MODULE M; PROCEDURE P; BEGIN x; ; "+s, api.ErrTreeToken)
		refuses(t, Module, "MODULE M; BEGIN IF x THEN y END; "+s, api.ErrTreeToken)
	}
}
