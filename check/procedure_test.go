package check

import (
	"fmt"
	"testing"

	"carrel/api"
)

func TestProcedures(t *testing.T) { // P12.1: procedures
	for _, x := range []struct{ source, want string }{
		{"PROCEDURE P; END P;", "P()[]{}"},
		{"PROCEDURE P*(); BEGIN END P;", "P*()[]{}"},
		{"PROCEDURE P*(a, b: INTEGER; VAR c: SET; d: ARRAY OF CHAR; VAR e: ARRAY OF BYTE): CHAR; RETURN 0X END P;",
			"P*(a:1 b:1 VAR c:5 d:11 VAR e:12):3[]{}#0:3"},
		{"PROCEDURE P(a: R; VAR b: R; c: Q; d: V): Q; RETURN c END P;", "P(a:8 VAR b:8 c:9 d:10):9[]{}l2:9"},
		{"PROCEDURE P(a: ARRAY OF R); END P;", "P(a:11)[]{}"},
		{"PROCEDURE P(): Q; RETURN NIL END P;", "P():9[]{}#0:6"},
		{`PROCEDURE P(): CHAR; RETURN "x" END P;`, "P():3[]{}#120:3"},
		{"PROCEDURE P(): BYTE; RETURN 300 END P;", "P():4[]{}#300:1"},
		{"PROCEDURE P(): INTEGER; VAR b: BYTE; RETURN b END P;", "P():1[b:4]{}l0:4"},
		{"PROCEDURE P(a: INTEGER); VAR b, c: CHAR; d: V; BEGIN b := c; a := d[a] END P;",
			"P(a:1)[b:3 c:3 d:10]{assign(l1:3 l2:3); assign(l0:1 index:1(l3:10 l0:1))}"},
		{"PROCEDURE P(n: INTEGER): INTEGER; RETURN P(n - 1) END P;", "P(n:1):1[]{}call-1.0:1(sub:1(l0:1 #1:1))"},
		{"PROCEDURE P(P: INTEGER); BEGIN P := 1 END P;", "P(P:1)[]{assign(l0:1 #1:1)}"},
		{"PROCEDURE P(k: INTEGER); BEGIN k := 1 END P;", "P(k:1)[]{assign(l0:1 #1:1)}"},
		{"PROCEDURE P(L: INTEGER; R: CHAR); BEGIN L := ORD(R) END P;", "P(L:1 R:3)[]{assign(l0:1 ORD:1(l1:3))}"},
		{"PROCEDURE P; CONST g = 7; k = g + k; VAR v: INTEGER; BEGIN v := k END P;", "P()[v:1]{assign(l0:1 #10:1)}"},
		{"PROCEDURE P(a: V); CONST n = LEN(a) * LEN(v); VAR b: ARRAY n OF CHAR; END P;", "P(a:10)[b:11]{}"},
		{"PROCEDURE P; VAR R: RECORD a: R END; BEGIN R.a.x := 1 END P;", "P()[R:11]{assign(field0:1(field0:8(l0:11)) #1:1)}"},
		{"PROCEDURE P; VAR p: POINTER TO R; BEGIN p.x := 1 END P;", "P()[p:11]{assign(field0:1(deref:8(l0:11)) #1:1)}"},
	} {
		s := "MODULE M; IMPORT K; CONST k = 3; TYPE R = RECORD x: INTEGER END; Q = POINTER TO R; V = ARRAY 2 OF INTEGER; VAR g: INTEGER; v: V; " + x.source + " END M."
		if got := tellProcs(right(t, s).Procs); got != x.want {
			t.Errorf("%s: %s", x.source, got)
		}
	}
	m := right(t, `MODULE M; PROCEDURE A(): CHAR; RETURN "a" END A; PROCEDURE B; VAR A: CHAR; BEGIN A := "b" END B; BEGIN EMIT(A()); B END M.`)
	if got := tell(m); got != "M | procs A():3[]{}#97:3; B()[A:3]{assign(l0:3 #98:3)} | init do(EMIT:0(call-1.0:3)); do(call-1.1:0)" {
		t.Error(got)
	}
}

func TestWrongProcedures(t *testing.T) { // P12.1: procedures
	for _, x := range []struct {
		source string
		e      api.Errno
	}{
		{"PROCEDURE P(a: @X); END P;", api.ErrCheckName},
		{"PROCEDURE P(a: @k); END P;", api.ErrCheckName},
		{"PROCEDURE P(a: ARRAY OF @k); END P;", api.ErrCheckName},
		{"PROCEDURE P(a, @a: CHAR); END P;", api.ErrCheckTwice},
		{"PROCEDURE P(a: CHAR; VAR @a: CHAR); END P;", api.ErrCheckTwice},
		{"PROCEDURE P(a: CHAR; a: @X); END P;", api.ErrCheckName},
		{"PROCEDURE P(R: CHAR; a: @R); END P;", api.ErrCheckName},
		{"PROCEDURE P(R: CHAR): @R; RETURN 1 END P;", api.ErrCheckName},
		{"PROCEDURE P(): @P; RETURN 1 END P;", api.ErrCheckName},
		{"PROCEDURE P(a, b, c, d: CHAR; e, f, g, h, @i: CHAR); END P;", api.ErrCheckMany},
		{"PROCEDURE P(a, b, c, d, e, f, g, h, @a: CHAR); END P;", api.ErrCheckMany},
		{"PROCEDURE P(a, b, c, d, e, f, g, h: CHAR; i: @X); END P;", api.ErrCheckName},
		{"PROCEDURE P(): @X; END P;", api.ErrCheckName},
		{"PROCEDURE P(): @k; END P;", api.ErrCheckName},
		{"PROCEDURE P(): @R; END P;", api.ErrCheckType},
		{"PROCEDURE P(): @V; END P;", api.ErrCheckType},
		{"@PROCEDURE P*(a: R); END P;", api.ErrCheckExport},
		{"@PROCEDURE P*(VAR a: Q); END P;", api.ErrCheckExport},
		{"@PROCEDURE P*(b: CHAR; a: V); END P;", api.ErrCheckExport},
		{"@PROCEDURE P*(a: ARRAY OF R); END P;", api.ErrCheckExport},
		{"@PROCEDURE P*(a: ARRAY OF V); END P;", api.ErrCheckExport},
		{"@PROCEDURE P*(): Q; END P;", api.ErrCheckExport},
		{"@PROCEDURE R*(a: R); END R;", api.ErrCheckExport},
		{"PROCEDURE P*(a: R): @X; END P;", api.ErrCheckName},
		{"@PROCEDURE R; BEGIN x END R;", api.ErrCheckTwice},
		{"@PROCEDURE k; END k;", api.ErrCheckTwice},
		{"@PROCEDURE K; END K;", api.ErrCheckTwice},
		{"@PROCEDURE g; END g;", api.ErrCheckTwice},
		{"PROCEDURE P; END P; @PROCEDURE P; END P;", api.ErrCheckTwice},
		{"PROCEDURE P(a: CHAR); CONST @a = 1; END P;", api.ErrCheckTwice},
		{"PROCEDURE P(a: CHAR); VAR @a: CHAR; END P;", api.ErrCheckTwice},
		{"PROCEDURE P; CONST a = 1; @a = 2; END P;", api.ErrCheckTwice},
		{"PROCEDURE P; CONST a = 1; VAR @a: CHAR; END P;", api.ErrCheckTwice},
		{"PROCEDURE P; VAR a: CHAR; b, @a: CHAR; END P;", api.ErrCheckTwice},
		{"PROCEDURE P; CONST @a* = 1; END P;", api.ErrCheckExport},
		{"PROCEDURE P(a: CHAR); CONST @a* = 1; END P;", api.ErrCheckExport},
		{"PROCEDURE P; CONST @a* = g; END P;", api.ErrCheckConst},
		{"PROCEDURE P; CONST a = @b; END P;", api.ErrCheckName},
		{"PROCEDURE P(a: ARRAY OF CHAR); CONST @n = LEN(a); END P;", api.ErrCheckConst},
		{"PROCEDURE P; VAR a, @b*: CHAR; END P;", api.ErrCheckExport},
		{"PROCEDURE P(a: CHAR); VAR @a*: CHAR; END P;", api.ErrCheckExport},
		{"PROCEDURE P; VAR a: @X; END P;", api.ErrCheckName},
		{"PROCEDURE P; VAR a: @P; END P;", api.ErrCheckName},
		{"PROCEDURE P; VAR a: POINTER TO @X; END P;", api.ErrCheckName},
		{"PROCEDURE P; VAR R: CHAR; a: @R; END P;", api.ErrCheckName},
		{"@PROCEDURE P(): CHAR; END P;", api.ErrCheckType},
		{"@PROCEDURE P; RETURN 1 END P;", api.ErrCheckType},
		{"@PROCEDURE P; RETURN x END P;", api.ErrCheckType},
		{"PROCEDURE P; BEGIN @x RETURN 1 END P;", api.ErrCheckName},
		{"PROCEDURE P(): CHAR; BEGIN @x END P;", api.ErrCheckName},
		{"PROCEDURE P(): CHAR; RETURN @x END P;", api.ErrCheckName},
		{"PROCEDURE P(): CHAR; @RETURN 1 END P;", api.ErrCheckType},
		{`PROCEDURE P(): CHAR; @RETURN "xy" END P;`, api.ErrCheckType},
		{`PROCEDURE P(): CHAR; @RETURN "" END P;`, api.ErrCheckType},
		{`PROCEDURE P(): INTEGER; @RETURN "x" END P;`, api.ErrCheckType},
		{"PROCEDURE P(): INTEGER; @RETURN TRUE END P;", api.ErrCheckType},
		{"PROCEDURE P(): INTEGER; @RETURN NIL END P;", api.ErrCheckType},
		{"PROCEDURE P(r: R): Q; @RETURN r END P;", api.ErrCheckType},
		{"BEGIN @P", api.ErrCheckName},
		{"PROCEDURE P; BEGIN @S END P; PROCEDURE S; END S;", api.ErrCheckName},
		{"PROCEDURE P(a: CHAR); END P; BEGIN @a := 0X", api.ErrCheckName},
		{"PROCEDURE P; VAR b: CHAR; END P; PROCEDURE S; BEGIN @b := 0X END S;", api.ErrCheckName},
		{"PROCEDURE P; CONST b = 1; END P; PROCEDURE S; BEGIN g := @b END S;", api.ErrCheckName},
		{"PROCEDURE P; VAR K: INTEGER; BEGIN K@.x END P;", api.ErrCheckType},
		{"PROCEDURE P(P: INTEGER); BEGIN @P(1) END P;", api.ErrCheckName},
	} {
		wrong(t, "MODULE M; IMPORT K; CONST k = 3; TYPE R = RECORD x: INTEGER END; Q = POINTER TO R; V = ARRAY 2 OF INTEGER; VAR g: INTEGER; v: V; "+x.source+" END M.", x.e)
	}
}

func TestManyProcedures(t *testing.T) { // P12.1: at most 100
	procs := "MODULE M; TYPE ARRAY0 = ARRAY 1 OF CHAR; VAR v: CHAR; " + many(100, func(i int) string { return fmt.Sprintf("PROCEDURE P%d; END P%d; ", i, i) })
	if m := right(t, procs+"END M."); len(m.Procs) != 100 {
		t.Error("100 procedures")
	}
	wrong(t, procs+"@PROCEDURE Q; END Q; END M.", api.ErrCheckMany)
	wrong(t, procs+"@PROCEDURE v; END v; END M.", api.ErrCheckMany)
	wrong(t, procs+"PROCEDURE Q(a: @X); END Q; END M.", api.ErrCheckName)
	wrong(t, procs+"@PROCEDURE Q*(a: ARRAY OF ARRAY0); END Q; END M.", api.ErrCheckExport)
}

func TestFrames(t *testing.T) { // P12.1: 200 parameters and variables, 1024 bytes of own ones
	vars := func(n int) string { return many(n, func(i int) string { return fmt.Sprint("v", i, ", ") }) }
	proc := func(params, vars string) string {
		return "MODULE M; TYPE V = ARRAY 1000 OF CHAR; W = ARRAY 1024 OF CHAR; X = ARRAY 1023 OF CHAR; E = RECORD END; PROCEDURE P" + params + "; VAR " + vars + " END P; END M."
	}
	for _, x := range [][2]string{
		{"", vars(199) + "v: CHAR;"},
		{"(a, b: W)", vars(197) + "v: CHAR;"},
		{"(a: W)", "v: W; e: E;"},
		{"", "c: CHAR; v: V; i, j, k, l, m: INTEGER;"},
		{"", "v: X; c: CHAR;"},
		{"", "v: V; i, j, k, l, m, n: INTEGER;"},
		{"", "e: E; v: W;"},
		{"", "i: INTEGER; a: ARRAY 255 OF INTEGER; e: E;"},
		{"", "b: BOOLEAN; i: SET; v: V; c, d, e, f, g, h, k, l: BYTE; m, n: INTEGER;"},
	} {
		right(t, proc(x[0], x[1]))
	}
	for _, x := range [][2]string{
		{"", vars(199) + "v, @w: CHAR;"},
		{"(a, b: CHAR)", vars(197) + "v: CHAR; @w: CHAR;"},
		{"", vars(199) + "v, @w*: CHAR;"},
		{"", "v: W; @c: CHAR;"},
		{"", "c: CHAR; @v: W;"},
		{"", "v: X; c, @d: CHAR;"},
		{"", "v: X; @i: INTEGER;"},
		{"", "c: CHAR; i: INTEGER; v: V; j, k, l, m, @n: INTEGER;"},
		{"", "v: V; c: CHAR; i, j, k, l, m, @n: INTEGER;"},
		{"", "@v: ARRAY 257 OF INTEGER;"},
		{"", "v: W; @v: CHAR;"},
	} {
		e := api.ErrCheckMany
		if x[1] == vars(199)+"v, @w*: CHAR;" {
			e = api.ErrCheckExport
		}
		wrong(t, proc(x[0], x[1]), e)
	}
}
