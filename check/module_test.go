package check

import (
	"fmt"
	"strings"
	"testing"

	"carrel/api"
)

func TestImports(t *testing.T) { // P12.1, step 2
	for _, x := range []struct{ source, want string }{
		{"IMPORT K;", "M import K"},
		{"IMPORT SYSTEM;", "M system"},
		{"IMPORT SYSTEM, K, L;", "M system import K import L | types array 3 of 1; open of 3; open of 1"},
		{"IMPORT L, K;", "M import L import K | types array 3 of 1; open of 3; open of 1"},
	} {
		if got := tell(right(t, "MODULE M; "+x.source+" END M.")); got != x.want {
			t.Errorf("%s: %s", x.source, got)
		}
	}
	for _, x := range []struct {
		source string
		e      api.Errno
	}{
		{"IMPORT @M;", api.ErrCheckTwice},
		{"IMPORT K, @Q, M;", api.ErrCheckImport},
		{"IMPORT K, @M, Q;", api.ErrCheckTwice},
		{"IMPORT K, L, @K;", api.ErrCheckTwice},
		{"IMPORT SYSTEM, @SYSTEM;", api.ErrCheckTwice},
		{"IMPORT @k;", api.ErrCheckImport},
		{"IMPORT @INTEGER;", api.ErrCheckImport},
		{"IMPORT K; CONST @K = 1;", api.ErrCheckTwice},
		{"IMPORT SYSTEM; VAR @SYSTEM: CHAR;", api.ErrCheckTwice},
	} {
		wrong(t, "MODULE M; "+x.source+" END M.", x.e)
	}
	wrong(t, "MODULE SYSTEM; IMPORT @SYSTEM; END SYSTEM.", api.ErrCheckTwice)
	wrong(t, "MODULE L; IMPORT @L; END L.", api.ErrCheckTwice)
	right(t, "MODULE M; VAR M, SYSTEM, K: INTEGER; PROCEDURE L; END L; BEGIN M := SYSTEM; L END M.")
	right(t, "MODULE INTEGER; END INTEGER.")
}

func TestImportOfStandard(t *testing.T) { // P12.1: a standard name can't be declared, as that of a module neither
	for _, name := range strings.Fields("INTEGER BOOLEAN CHAR BYTE SET ABS ODD LEN LSL ASR ROR ORD CHR INC DEC INCL EXCL NEW ASSERT EMIT TAKE HALT") {
		syms := []api.Sym{{Name: name}, {Name: "ADR"}}
		wrongBeside(t, "MODULE M; IMPORT ADR, @"+name+"; END M.", syms, api.ErrCheckTwice)
		wrong(t, "MODULE M; CONST @"+name+" = 1; END M.", api.ErrCheckTwice)
		wrong(t, "MODULE M; TYPE @"+name+" = CHAR; END M.", api.ErrCheckTwice)
		wrong(t, "MODULE M; VAR @"+name+": CHAR; END M.", api.ErrCheckTwice)
		wrong(t, "MODULE M; @PROCEDURE "+name+"; END "+name+"; END M.", api.ErrCheckTwice)
		wrong(t, "MODULE M; PROCEDURE P(@"+name+": CHAR); END P; END M.", api.ErrCheckTwice)
		wrong(t, "MODULE M; PROCEDURE P; CONST @"+name+" = 1; END P; END M.", api.ErrCheckTwice)
		wrong(t, "MODULE M; PROCEDURE P; VAR @"+name+": CHAR; END P; END M.", api.ErrCheckTwice)
	}
	right(t, "MODULE M; VAR ADR, GET, PUT, CALL, NIL0: CHAR; TYPES: INTEGER; END M.")
	right(t, "MODULE M; TYPE R = RECORD INTEGER: CHAR; ABS: INTEGER END; VAR r: R; BEGIN r.ABS := 1 END M.")
}

func importOf(t *testing.T, s api.Sym) api.Errno {
	t.Helper()
	_, _, e := both(t, "MODULE M; IMPORT L; END M.", []api.Sym{s})
	return e
}

func TestMayBeImported(t *testing.T) { // P12.1: which Syms may be
	long := strings.Repeat("x", 200)
	for _, x := range []api.Const{
		{Type: api.Integer, N: -1 << 31}, {Type: api.Integer, N: 1<<31 - 1}, {Type: api.Boolean}, {Type: api.Boolean, N: 1},
		{Type: api.Char}, {Type: api.Char, N: 255}, {Type: api.Set}, {Type: api.Set, N: 1<<32 - 1},
		{Type: api.String}, {Type: api.String, S: long}, {Type: api.String, N: 99, S: "\x00\xff"}, {Type: api.Integer, S: long + "y", Export: true},
	} {
		if e := importOf(t, api.Sym{Name: "L", Consts: []api.Const{{Type: api.Integer}, x}}); e != api.OK {
			t.Errorf("%v: %v", x, e)
		}
	}
	for _, x := range []api.Const{
		{}, {Type: -1}, {Type: api.Byte}, {Type: api.Nil}, {Type: 8},
		{Type: api.Integer, N: -1<<31 - 1}, {Type: api.Integer, N: 1 << 31}, {Type: api.Boolean, N: 2}, {Type: api.Boolean, N: -1},
		{Type: api.Char, N: -1}, {Type: api.Char, N: 256}, {Type: api.Set, N: -1}, {Type: api.Set, N: 1 << 32}, {Type: api.String, S: long + "y"},
	} {
		if e := importOf(t, api.Sym{Name: "L", Consts: []api.Const{{Type: api.Integer}, x}}); e != api.ErrCheckImport {
			t.Errorf("%v: %v", x, e)
		}
	}
	for _, x := range []api.SymVar{
		{Form: api.Integer}, {Form: api.Boolean}, {Form: api.Set, Len: 1}, {Form: api.Integer, Len: 4096}, {Form: api.Set, Len: 4096},
		{Form: api.Char, Len: 16384}, {Form: api.Byte, Len: 16384}, {Form: api.Boolean, Len: 16384},
	} {
		if e := importOf(t, api.Sym{Name: "L", Vars: []api.SymVar{{Form: api.Char}, x}}); e != api.OK {
			t.Errorf("%v: %v", x, e)
		}
	}
	for _, x := range []api.SymVar{
		{}, {Form: -1}, {Form: api.Nil}, {Form: api.String}, {Form: api.Array}, {Form: 99}, {Form: api.Char, Len: -1}, {Form: api.Char, Len: 16385},
		{Form: api.Integer, Len: 4097}, {Form: api.Set, Len: 1 << 62}, {Form: api.Integer, Len: -1 << 63}, {Form: api.Char, Open: true}, {Form: api.Char, Ref: true},
	} {
		if e := importOf(t, api.Sym{Name: "L", Vars: []api.SymVar{{Form: api.Char}, x}}); e != api.ErrCheckImport {
			t.Errorf("%v: %v", x, e)
		}
	}
	plain := api.SymVar{Form: api.Integer}
	eight := []api.SymVar{plain, plain, plain, plain, plain, plain, plain, plain}
	for _, x := range []api.SymProc{
		{}, {Params: eight}, {Result: api.Set}, {Params: []api.SymVar{{Form: api.Set, Open: true, Ref: true, Name: "x"}}, Result: api.Integer},
	} {
		if e := importOf(t, api.Sym{Name: "L", Procs: []api.SymProc{{}, x}}); e != api.OK {
			t.Errorf("%v: %v", x, e)
		}
	}
	for _, x := range []api.SymProc{
		{Params: append(eight, plain)}, {Result: -1}, {Result: api.Nil}, {Params: []api.SymVar{{}}},
		{Params: []api.SymVar{plain, {Form: api.Nil}}}, {Params: []api.SymVar{{Form: api.Char, Len: 1}}}, {Params: []api.SymVar{{Form: api.Char, Len: -1}}},
	} {
		if e := importOf(t, api.Sym{Name: "L", Procs: []api.SymProc{{}, x}}); e != api.ErrCheckImport {
			t.Errorf("%v: %v", x, e)
		}
	}
}

func TestTheFirstSymCounts(t *testing.T) { // P12.1: the first that has that Name
	bad := api.Sym{Name: "L", Procs: []api.SymProc{{Result: 99}}}
	good := api.Sym{Name: "L", Consts: []api.Const{{Name: "x", Type: api.Integer, N: 3}}}
	other := api.Sym{Name: "Q", Vars: []api.SymVar{{}}}
	wrongBeside(t, "MODULE M; IMPORT @L; END M.", []api.Sym{other, bad, good}, api.ErrCheckImport)
	m, _, e := both(t, "MODULE M; IMPORT L; CONST y = L.x; END M.", []api.Sym{other, good, bad})
	if e != api.OK || tellConsts(m.Consts) != "y:1=3" {
		t.Error(tell(m), e)
	}
}

func TestNamesOfAnImport(t *testing.T) { // P12.1: the first of a name, of Consts, else of Vars, else of Procs; types for each of them
	syms := []api.Sym{{Name: "A"}, {Name: "L",
		Consts: []api.Const{{Name: "x", Type: api.Integer, N: 1}, {Name: "x", Type: api.Integer, N: 2}},
		Vars:   []api.SymVar{{Name: "x", Form: api.Char, Len: 2}, {Name: "y", Form: api.Set}, {Name: "y", Form: api.Char, Len: 3}, {Name: "z", Form: api.Byte, Len: 4}},
		Procs: []api.SymProc{
			{Name: "y", Params: []api.SymVar{{Form: api.Byte, Open: true}}},
			{Name: "P"}, {Name: "P", Params: []api.SymVar{{Form: api.Integer}, {Form: api.Set, Open: true, Ref: true}}},
			{Name: "Q", Params: []api.SymVar{{Form: api.Char}, {Form: api.Byte, Open: true}}, Result: api.Char},
		},
	}}
	m, at, e := both(t, `MODULE M; IMPORT A, L; VAR s: SET; b: BYTE; c: CHAR; BEGIN s := L.y; b := L.z[L.x]; L.P; c := L.Q("x", L.z) END M.`, syms)
	want := "M import A import L | types array 2 of 3; array 3 of 3; array 4 of 4; open of 4; open of 5; open of 4 | vars s:5 b:4 c:3" +
		" | init assign(g-1.0:5 g1.1:5); assign(g-1.1:4 index:4(g1.3:10 #1:1)); do(call1.1:0); assign(g-1.2:3 call1.3:3(#120:3 g1.3:10))"
	if got := tell(m); e != api.OK || got != want {
		t.Errorf("%d %v %s", at, e, got)
	}
	sound(t, "names of an import", m)
}

func TestManyImports(t *testing.T) { // P12.1: at most 16 Imports, and 200 types
	var syms []api.Sym
	for i := range 17 {
		syms = append(syms, api.Sym{Name: fmt.Sprint("A", i)})
	}
	list := func(n int) string { return many(n, func(i int) string { return fmt.Sprint("A", i, ", ") }) }
	m, _, e := both(t, "MODULE M; IMPORT "+list(15)+"SYSTEM, A15; END M.", syms)
	if e != api.OK || len(m.Imports) != 16 || len(m.Syms) != 16 || !m.System {
		t.Error(e)
	}
	wrongBeside(t, "MODULE M; IMPORT "+list(16)+"@A16; END M.", syms, api.ErrCheckMany)
	wrongBeside(t, "MODULE M; IMPORT "+list(16)+"@A1; END M.", syms, api.ErrCheckMany)
	wrongBeside(t, "MODULE M; IMPORT "+list(16)+"@B; END M.", syms, api.ErrCheckImport)
	wrongBeside(t, "MODULE M; IMPORT "+list(16)+"@M; END M.", syms, api.ErrCheckTwice)
	var vars []api.SymVar
	for range 192 {
		vars = append(vars, api.SymVar{Form: api.Char, Len: 1}, api.SymVar{Form: api.Char})
	}
	proc := []api.SymProc{{Params: []api.SymVar{{Form: api.Char, Open: true}}}}
	syms = []api.Sym{{Name: "A", Vars: vars}, {Name: "B", Vars: vars[:1]}, {Name: "C", Procs: proc}, {Name: "D", Vars: vars[2:], Procs: proc},
		{Name: "E", Vars: vars, Procs: proc}}
	for source, e := range map[string]api.Errno{"A;": 0, "D;": 0, "A, @B;": api.ErrCheckMany, "A, @C;": api.ErrCheckMany, "C, @A": api.ErrCheckMany, "C, @D;": api.ErrCheckMany, "@E;": api.ErrCheckMany} {
		source = "MODULE M; IMPORT " + strings.TrimSuffix(source, ";") + "; END M."
		if e != 0 {
			wrongBeside(t, source, syms, e)
		} else if m, _, e := both(t, source, syms); e != api.OK || len(m.Types) != 200 {
			t.Errorf("%s: %v", source, e)
		}
	}
}

func TestConsts(t *testing.T) { // P12.1, step 3
	m := right(t, `MODULE M; IMPORT L; CONST a* = 1; b = a + L.n; c* = "x"; d = c; e* = TRUE; f = 0FX; g* = {a, 31}; h = L.s; i = {}; j = ""; k = ORD(c); x = LEN(L.a); END M.`)
	want := `a:1=1* b:1=-6 c:7=0"x"* d:7=0"x" e:2=1* f:3=15 g:5=2147483650* h:7=0"text" i:5=0 j:7=0 k:1=120 x:1=3`
	if got := tellConsts(m.Consts); got != want {
		t.Error(got)
	}
	for _, x := range []struct {
		source string
		e      api.Errno
	}{
		{"CONST @a = NIL;", api.ErrCheckConst},
		{"CONST a = 1; @a = 2;", api.ErrCheckTwice},
		{"CONST a = @a;", api.ErrCheckName},
		{"CONST a = @b; b = 1;", api.ErrCheckName},
		{"CONST a = @INTEGER;", api.ErrCheckName},
		{"CONST a = @ABS;", api.ErrCheckName},
		{"CONST a = @L;", api.ErrCheckName},
		{"CONST a = L@.F;", api.ErrCheckName},
		{"CONST @a = L.i;", api.ErrCheckConst},
		{"CONST @a = L.F(1);", api.ErrCheckConst},
		{"CONST @a = {L.i};", api.ErrCheckConst},
		{"CONST @a = 1 + L.i;", api.ErrCheckConst},
		{"CONST @a = ABS(L.i);", api.ErrCheckConst},
		{"CONST @a = L.a[0];", api.ErrCheckConst},
		{"CONST @a = NIL = NIL;", api.ErrCheckConst},
		{"CONST @L = NIL;", api.ErrCheckConst},
		{"CONST @L = 1;", api.ErrCheckTwice},
		{`CONST a = "x" @+ "y";`, api.ErrCheckType},
	} {
		wrong(t, "MODULE M; IMPORT L; "+x.source+" END M.", x.e)
	}
	consts := "MODULE M; CONST " + many(200, func(i int) string { return fmt.Sprint("c", i, " = ", i, "; ") })
	if m := right(t, consts+"END M."); len(m.Consts) != 200 || m.Consts[199].N != 199 {
		t.Error("200 constants")
	}
	wrong(t, consts+"@d = 1; END M.", api.ErrCheckMany)
	wrong(t, consts+"@c0 = 1; END M.", api.ErrCheckMany)
	wrong(t, consts+"@d = NIL; END M.", api.ErrCheckConst)
}

func TestVars(t *testing.T) { // P12.1, step 5
	m := right(t, "MODULE M; TYPE T = ARRAY 2 OF SET; R = RECORD END; VAR a, b*: INTEGER; c*: T; d*: ARRAY 3 OF BYTE; e: ARRAY 2 OF T; r: R; p: POINTER TO R; f*: BOOLEAN; END M.")
	want := "M | types array 2 of 5; record(0); array 3 of 4; array 2 of 8; pointer to 9 | vars a:1 b:1* c:8* d:10* e:11 r:9 p:12 f:2*"
	if got := tell(m); got != want {
		t.Error(got)
	}
	for _, x := range []struct {
		source string
		e      api.Errno
	}{
		{"VAR a, @b*: R;", api.ErrCheckExport},
		{"VAR @p*: POINTER TO R;", api.ErrCheckExport},
		{"VAR @a*: ARRAY 2 OF R;", api.ErrCheckExport},
		{"VAR @a*: ARRAY 2 OF ARRAY 2 OF CHAR;", api.ErrCheckExport},
		{"VAR @R*: R;", api.ErrCheckExport},
		{"VAR @R: R;", api.ErrCheckTwice},
		{"VAR a: CHAR; b, @a: CHAR;", api.ErrCheckTwice},
		{"VAR a, @a: CHAR;", api.ErrCheckTwice},
		{"VAR a: @a;", api.ErrCheckName},
		{"VAR a: CHAR; b: @a;", api.ErrCheckName},
		{"VAR R: @Q;", api.ErrCheckName},
		{"VAR p: POINTER TO @Q;", api.ErrCheckName},
		{"VAR p: POINTER TO @p;", api.ErrCheckName},
	} {
		wrong(t, "MODULE M; TYPE R = RECORD END; "+x.source+" END M.", x.e)
	}
	vars := "MODULE M; VAR " + many(199, func(i int) string { return fmt.Sprint("v", i, ", ") })
	if m := right(t, vars+"v: CHAR; END M."); len(m.Vars) != 200 {
		t.Error("200 variables")
	}
	wrong(t, vars+"v, @w: CHAR; END M.", api.ErrCheckMany)
	wrong(t, vars+"v: CHAR; @v0: CHAR; END M.", api.ErrCheckMany)
	wrong(t, vars+"v: CHAR; @w*: RECORD END; END M.", api.ErrCheckExport)
}

func TestOrderOfParts(t *testing.T) { // P12.1: the first error is that of the node that is looked at first
	for _, x := range []struct {
		source string
		e      api.Errno
	}{
		{"IMPORT @Z; CONST a = b; TYPE T = U; VAR v: W; PROCEDURE P; BEGIN x END P; BEGIN y", api.ErrCheckImport},
		{"CONST a = @b; TYPE T = U; VAR v: W; PROCEDURE P; BEGIN x END P; BEGIN y", api.ErrCheckName},
		{"TYPE T = @U; VAR v: W; PROCEDURE P; BEGIN x END P; BEGIN y", api.ErrCheckName},
		{"TYPE T = POINTER TO @U; VAR v: W; PROCEDURE P; BEGIN x END P; BEGIN y", api.ErrCheckName},
		{"TYPE T = POINTER TO U; V = @V; VAR v: W; PROCEDURE P; BEGIN x END P; BEGIN y", api.ErrCheckName},
		{"VAR v: @W; PROCEDURE P; BEGIN x END P; BEGIN y", api.ErrCheckName},
		{"PROCEDURE P; BEGIN @x END P; BEGIN y", api.ErrCheckName},
		{"PROCEDURE P; BEGIN @x END P; PROCEDURE P; END P; BEGIN y", api.ErrCheckName},
		{"BEGIN @y; z", api.ErrCheckName},
	} {
		wrong(t, "MODULE M; "+x.source+" END M.", x.e)
	}
}
