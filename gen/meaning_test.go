package gen

import (
	"strconv"
	"strings"
	"testing"

	"carrel/api"
)

func TestAssertionsTell(t *testing.T) { // the tables below lean on this
	does(t, "ASSERT", behind(t, "ASSERT(i = 1)"), "", "", trapped(api.TrapAssert))
}

func TestNumbers(t *testing.T) { // P15.3: 32 bits, going round; DIV and MOD downwards
	for _, s := range []string{
		"i := 2147483647; j := 1; ASSERT(i + j = -2147483647 - 1)",
		"i := -2147483647 - 1; j := 1; ASSERT(i - j = 2147483647)",
		"i := -2147483647 - 1; ASSERT(-i = i); ASSERT(ABS(i) = i)",
		"i := 65536; ASSERT(i * i = 0)",
		"i := 123456789; j := 987654321; ASSERT(i * j = -67153019)",
		"i := -7; j := 2; ASSERT(i DIV j = -4); ASSERT(i MOD j = 1)",
		"i := 7; j := 2; ASSERT(i DIV j = 3); ASSERT(i MOD j = 1)",
		"i := -8; j := 2; ASSERT(i DIV j = -4); ASSERT(i MOD j = 0)",
		"i := -1; j := 2147483647; ASSERT(i DIV j = -1); ASSERT(i MOD j = 2147483646)",
		"i := -2147483647 - 1; j := 1; ASSERT(i DIV j = i); ASSERT(i MOD j = 0)",
		"i := -2147483647 - 1; j := 2147483647; ASSERT(i DIV j = -2); ASSERT(i MOD j = 2147483646)",
		"i := 5; ASSERT(-i = -5); ASSERT(+i = 5)",
		"i := -5; ASSERT(ABS(i) = 5); i := 5; ASSERT(ABS(i) = 5)",
		"i := -3; ASSERT(ODD(i)); i := 4; ASSERT(~ODD(i)); i := -4; ASSERT(~ODD(i)); y := 255; ASSERT(ODD(y))",
		"i := 3; ASSERT(LSL(i, 31) = -2147483647 - 1); j := 33; ASSERT(LSL(i, j) = 6); j := -1; ASSERT(LSL(i, j) = -2147483647 - 1)",
		"i := -9; ASSERT(ASR(i, 1) = -5); j := 32; ASSERT(ASR(i, j) = -9); ASSERT(ASR(i, 31) = -1); j := -31; ASSERT(ASR(i, j) = -5)",
		"i := 3; ASSERT(ROR(i, 1) = -2147483647); ASSERT(ROR(i, 32) = 3); j := -1; ASSERT(ROR(i, j) = 6); j := 64; ASSERT(ROR(i, j) = 3)",
		"y := 200; i := y; ASSERT(i = 200); ASSERT(y + y = 400); ASSERT(-y = -200)",
		"i := 511; y := i; ASSERT(y = 255); i := -1; y := i; ASSERT(y = 255); i := 256; y := i; ASSERT(y = 0)",
		"yy[1] := 300; ASSERT(yy[0] = 0); ASSERT(yy[1] = 44); ASSERT(yy[2] = 0)",
		"NEW(q); q.y := 258; ASSERT(q.y = 2); ASSERT(~q.b)",
	} {
		halts(t, s, "")
	}
}

func TestOrders(t *testing.T) { // P15.3: EEq to EGe
	for _, s := range []string{
		"i := -1; j := 1; ASSERT(i < j); ASSERT(i <= j); ASSERT(~(i > j)); ASSERT(~(i >= j)); ASSERT(i # j); ASSERT(~(i = j))",
		"i := 3; j := 3; ASSERT(~(i < j)); ASSERT(i <= j); ASSERT(~(i > j)); ASSERT(i >= j); ASSERT(~(i # j)); ASSERT(i = j)",
		"i := -2147483647 - 1; j := 2147483647; ASSERT(i < j); ASSERT(j > i); ASSERT(j >= i); ASSERT(~(j <= i))",
		"y := 255; i := 255; ASSERT(y = i); ASSERT(i >= y); i := -1; ASSERT(y # i); ASSERT(y > i)",
		"c := 0FFX; s[0] := \"a\"; ASSERT(c > s[0]); ASSERT(c >= \"a\"); ASSERT(s[0] < c); ASSERT(c # s[0]); ASSERT(s[0] = \"a\"); ASSERT(s[0] <= \"a\")",
		"b := TRUE; ASSERT(b # d); ASSERT(~(b = d)); d := TRUE; ASSERT(b = d); b := FALSE; ASSERT(~(b = d))",
		"e := {0, 31}; f := {31}; ASSERT(e # f); INCL(f, 0); ASSERT(e = f); ASSERT(~(e # f)); ASSERT({} # e)",
		"ASSERT(p = NIL); ASSERT(NIL = p); ASSERT(NIL = NIL); ASSERT(~(NIL # NIL)); ASSERT(p = pp); ASSERT(~(p # q))",
		"NEW(p); ASSERT(p # NIL); ASSERT(p # pp); pp := p; ASSERT(p = pp); NEW(pp); ASSERT(p # pp); NEW(q); p := q; ASSERT(p = q); ASSERT(q = p); ASSERT(pp # q)",
		"NEW(zp); p := NIL; ASSERT(zp # NIL)",
	} {
		halts(t, s, "")
	}
}

func TestTruths(t *testing.T) { // P15.3: of & and OR the right one only if it counts
	for _, x := range []struct{ s, out string }{
		{"ASSERT(E(\"t\") & E(\"t\"))", "tt"},
		{"ASSERT(~(E(\"t\") & E(\"f\")))", "tf"},
		{"ASSERT(~(E(\"f\") & E(\"t\")))", "f"},
		{"ASSERT(E(\"t\") OR E(\"f\"))", "t"},
		{"ASSERT(E(\"f\") OR E(\"t\"))", "ft"},
		{"ASSERT(~(E(\"f\") OR E(\"e\")))", "fe"},
		{"ASSERT(E(\"f\") & E(\"x\") OR E(\"t\"))", "ft"},
		{"b := TRUE; ASSERT(b); ASSERT(~~b); d := ~b; ASSERT(~d); ASSERT(ORD(b) = 1); ASSERT(ORD(d) = 0)", ""},
		{"ASSERT((p = NIL) OR (p.x = 1))", ""},
		{"ASSERT(~((p # NIL) & (p.x = 1)))", ""},
	} {
		halts(t, x.s, x.out)
	}
}

func TestSets(t *testing.T) { // P15.3: of SETs' bits
	for _, s := range []string{
		"e := {0..3}; f := {2..5}; ASSERT(e + f = {0..5}); ASSERT(e - f = {0, 1}); ASSERT(e * f = {2, 3}); ASSERT(e / f = {0, 1, 4, 5}); ASSERT(-e = {4..31})",
		"i := 2; j := 5; ASSERT({i..j} = {2, 3, 4, 5}); ASSERT({j..i} = {}); ASSERT({i..i} = {2}); ASSERT({i, j} = {2, 5}); ASSERT({j..i, 7} = {7})",
		"i := 0; j := 31; ASSERT({i..j} = -{}); ASSERT({j} = {31}); ASSERT({i} = {0})",
		"e := {31}; ASSERT(ORD(e) = -2147483647 - 1); e := {0, 4}; ASSERT(ORD(e) = 17); e := {}; ASSERT(ORD(e) = 0)",
		"e := {3}; i := 3; ASSERT(i IN e); i := 4; ASSERT(~(i IN e)); i := 31; ASSERT(~(i IN e)); ASSERT(i IN -e); y := 3; ASSERT(y IN e)",
		"i := 3; ASSERT(i IN {3}); ASSERT(~(i IN {2})); ASSERT(~(i IN {0, 1, 4})); ASSERT(i IN {1..30}); ASSERT(~(i IN {31})); ASSERT(~(i IN {})); f := {2, 20, 31}; ASSERT(2 IN f); ASSERT(20 IN f); ASSERT(31 IN f); ASSERT(~(0 IN f)); ASSERT(~(16 IN f))",
		"i := 31; INCL(e, i); ASSERT(e = {31}); INCL(e, 0); INCL(e, 0); ASSERT(e = {0, 31}); EXCL(e, i); ASSERT(e = {0}); EXCL(e, 5); ASSERT(e = {0})",
		"NEW(q); INCL(q.z, 7); y := 8; INCL(q.z, y); ASSERT(q.z = {7, 8})",
	} {
		halts(t, s, "")
	}
}

func TestCharacters(t *testing.T) { // P15.3: CHR, ORD, EMIT
	halts(t, "i := 255; c := CHR(i); ASSERT(ORD(c) = 255); i := 0; c := CHR(i); ASSERT(c = 0X); ASSERT(ORD(c) = 0); y := 65; EMIT(CHR(y)); EMIT(0X); EMIT(0FFX)", "A\x00\xff")
	halts(t, "c := \"z\"; EMIT(c); EMIT(\"y\"); s[3] := \"w\"; EMIT(s[3]); EMIT(s[0])", "zyw\x00")
}

func TestVariablesAreNoughtsAtFirst(t *testing.T) { // P15.3: also a procedure's at each call, and a record's
	halts(t, "ASSERT(i = 0); ASSERT(~b); ASSERT(c = 0X); ASSERT(y = 0); ASSERT(e = {}); ASSERT(p = NIL); ASSERT(v[3] = 0); ASSERT(r.x = 0); ASSERT(r.next = NIL); ASSERT(rr.z = {}); ASSERT(L.n = 0)", "")
	halts(t, "NEW(q); q.x := 5; q.v[3] := 5; NEW(q); ASSERT(q.x = 0); ASSERT(q.c = 0X); ASSERT(q.v[3] = 0); ASSERT(q.next = NIL); ASSERT(q.z = {})", "")
	haltsWith(t, "PROCEDURE A(n: INTEGER); VAR i: INTEGER; v: V; p: P; c: CHAR; BEGIN ASSERT(i = 0); ASSERT(v[2] = 0); ASSERT(p = NIL); ASSERT(c = 0X); i := n; v[2] := n; NEW(p); c := \"x\"; IF n > 0 THEN A(n - 1); ASSERT(i = n); ASSERT(v[2] = n) END END A;", "A(5); A(0)", "")
}

func TestPlaces(t *testing.T) { // P15.3: fields, elements, records
	for _, s := range []string{
		"w[0][3] := 1; w[1][0] := 2; ASSERT(w[0][3] = 1); ASSERT(w[1][0] = 2); ASSERT(w[1][3] = 0); v := w[0]; ASSERT(v[3] = 1); w[1] := v; ASSERT(w[1][0] = 0); w[0][3] := 9; ASSERT(v[3] = 1)",
		"r.x := 1; r.c := \"c\"; r.v[0] := 2; r.v[3] := 3; ASSERT(r.x = 1); ASSERT(r.c = \"c\"); ASSERT(r.v[0] = 2); ASSERT(r.v[3] = 3); r2 := r; r.x := 4; ASSERT(r2.x = 1); ASSERT(r2.v[3] = 3); ASSERT(r2.c = \"c\")",
		"rr.x := 1; rr.z := {1}; rr.y := 2; rr.b := TRUE; ASSERT(rr.x = 1); ASSERT(rr.z = {1}); ASSERT(rr.y = 2); ASSERT(rr.b)",
		"NEW(p); p.next := p; p.x := 3; ASSERT(p.next.next.next.x = 3); p.next.next.x := 4; ASSERT(p.x = 4); pp := p; NEW(p); ASSERT(p.x = 0); ASSERT(pp.x = 4)",
		"NEW(q); q.x := 1; q.z := {5}; q.y := 7; p := q; r.x := 2; r.v[3] := 9; p^ := r; ASSERT(q.x = 2); ASSERT(q.v[3] = 9); ASSERT(q.z = {5}); ASSERT(q.y = 7); r2 := p^; ASSERT(r2.x = 2)",
		"NEW(p); NEW(pp); p.x := 1; pp.x := 2; p^ := pp^; ASSERT(p.x = 2); ASSERT(p # pp); p^ := p^; ASSERT(p.x = 2)",
		"zz[2] := z; z := zz[0]; NEW(zp); zp^ := z; zz[1] := zp^",
		"i := 1; i := i; i := i + i; ASSERT(i = 2); v[i] := i; v[v[i]] := 3; ASSERT(v[2] = 3)",
	} {
		halts(t, s, "")
	}
}

// wholeOnes copies arrays of N THINGs, alone, within records and within arrays; at each time just one of x's has SETs, the others NONEs.
const wholeOnes = `TYPE P = POINTER TO R; R = RECORD END; A = ARRAY N OF THING; S = RECORD c: CHAR; a: A; d: CHAR END;
	VAR p: P; i, k: INTEGER; x: ARRAY 5 OF A; a: A; s, s2: S; y: ARRAY 3 OF S;
	PROCEDURE Only(which: INTEGER); VAR i, k: INTEGER;
	BEGIN FOR k := 0 TO 4 DO FOR i := 0 TO N - 1 DO IF k = which THEN ASSERT(x[k][i] = SET) ELSE ASSERT(x[k][i] = NONE) END END END END Only;
	PROCEDURE To(VAR to: A; from: A); VAR b: CHAR; own: A; c: CHAR;
	BEGIN own := from; to := own; ASSERT(b = 0X); ASSERT(c = 0X) END To;
	BEGIN NEW(p); FOR i := 0 TO N - 1 DO a[i] := SET END; x[2] := a; Only(2);
	k := 3; x[k] := x[2]; x[2] := x[0]; Only(3);
	To(x[1], a); x[k] := x[k - 3]; Only(1);
	s.c := "c"; s.d := "d"; s.a := x[1]; x[1] := x[2]; x[4] := s.a; Only(4);
	ASSERT(s.c = "c"); ASSERT(s.d = "d");
	s2 := s; s.a := x[0]; y[1] := s2; y[k - 2].c := "y"; x[4] := x[0]; x[0] := y[k - 2].a; Only(0);
	ASSERT(s2.c = "c"); ASSERT(s2.d = "d"); ASSERT(y[0].d = 0X); ASSERT(y[2].c = 0X); ASSERT(y[1].d = "d"); EMIT("k")`

func TestWholeOnes(t *testing.T) { // P15.3: arrays and records of all sizes, wherever they stand; what is beside them stays
	for n := 1; n <= 9; n++ {
		for _, x := range []struct{ of, set, none string }{
			{"CHAR", "CHR(i + 65)", "0X"},
			{"INTEGER", "(i - 20) * 70000", "0"},
			{"BYTE", "i + 9", "0"},
			{"P", "p", "NIL"},
		} {
			s := strings.NewReplacer(" N ", " "+strconv.Itoa(n)+" ", "THING", x.of, "SET", x.set, "NONE", x.none).Replace(wholeOnes)
			does(t, x.of+" "+strconv.Itoa(n), alone(t, s), "", "k", halt())
		}
	}
}

func TestRecordsTypes(t *testing.T) { // P15.3: EIs, EGuard
	for _, s := range []string{
		"ASSERT(~(p IS P)); ASSERT(~(p IS Q)); ASSERT(~(q IS Q))",
		"NEW(p); ASSERT(p IS P); ASSERT(~(p IS Q)); ASSERT(~(p IS T)); ASSERT(~(p IS O)); ASSERT(p(P) = p)",
		"NEW(q); p := q; ASSERT(p IS P); ASSERT(p IS Q); ASSERT(~(p IS T)); ASSERT(~(p IS O)); ASSERT(p(Q) = q); p(Q).y := 3; ASSERT(q.y = 3); ASSERT(p(P).x = 0)",
		"NEW(t); p := t; q := t; ASSERT(p IS P); ASSERT(p IS Q); ASSERT(p IS T); ASSERT(q IS T); ASSERT(t IS T); ASSERT(~(p IS O)); ASSERT(p(Q)(T) = t); ASSERT(p(T) = q)",
		"NEW(o); p := o; ASSERT(p IS O); ASSERT(p IS P); ASSERT(~(p IS Q)); ASSERT(p(O) = o)",
		"NEW(q); NEW(p); p.next := q; ASSERT(p.next IS Q); p.next(Q).z := {1}; ASSERT(q.z = {1}); ASSERT(G(q) IS Q); G(q)(Q).y := 4; ASSERT(q.y = 4)",
	} {
		halts(t, s, "")
	}
}

func TestStrings(t *testing.T) { // P15.3: SString: the others stay; an Open must be longer
	halts(t, "s := \"abcde\"; s := \"xy\"; ASSERT(s[0] = \"x\"); ASSERT(s[1] = \"y\"); ASSERT(s[2] = 0X); ASSERT(s[3] = \"d\"); ASSERT(s[4] = \"e\"); ASSERT(s[5] = 0X); s := \"\"; ASSERT(s[0] = 0X); ASSERT(s[1] = \"y\")", "")
	const a = "PROCEDURE A(VAR a: ARRAY OF CHAR); BEGIN a := \"ab\" END A; PROCEDURE B(VAR a: ARRAY OF CHAR); BEGIN A(a) END B;"
	haltsWith(t, a+"PROCEDURE C; VAR t: ARRAY 3 OF CHAR; BEGIN A(t); L.Say(t); B(t); L.Say(t) END C;", "C; s := \"12345\"; A(s); ASSERT(s[3] = \"4\"); ASSERT(s[2] = 0X)", "abab")
	for _, n := range []string{"1", "2"} {
		mods := behindProcs(t, a+"PROCEDURE C; VAR t: ARRAY "+n+" OF CHAR; BEGIN B(t) END C;", "C")
		does(t, n, mods, "", "", trapped(api.TrapCopy))
	}
	haltsWith(t, "PROCEDURE A(a: ARRAY OF CHAR); BEGIN EMIT(CHR(48 + LEN(a))); ASSERT(a[LEN(a) - 1] = 0X); L.Say(a) END A;", "A(str); A(\"\"); A(\"\"); A(\"xy\")", "4abc113xy")
	mods := behindProcs(t, "PROCEDURE A(a: ARRAY OF CHAR); BEGIN c := a[4] END A;", "A(str)")
	does(t, "behind the 0X", mods, "", "", trapped(api.TrapIndex))
}

func TestParameters(t *testing.T) { // P15.3: which are the argument's variable itself, which their own
	for _, x := range []struct{ proc, s string }{
		{"PROCEDURE A(x: INTEGER; c: CHAR; p: P); BEGIN x := 9; c := \"z\"; p := NIL END A;", "i := 1; c := \"c\"; NEW(p); A(i, c, p); ASSERT(i = 1); ASSERT(c = \"c\"); ASSERT(p # NIL)"},
		{"PROCEDURE A(VAR x: INTEGER; VAR c: CHAR; VAR p: P); BEGIN x := 9; c := \"z\"; p := NIL END A;", "i := 1; c := \"c\"; NEW(p); A(i, c, p); ASSERT(i = 9); ASSERT(c = \"z\"); ASSERT(p = NIL)"},
		{"PROCEDURE A(VAR x, y: INTEGER); BEGIN x := 3; ASSERT(y = 3); y := 4; ASSERT(x = 4); ASSERT(i = 4) END A;", "A(i, i); ASSERT(i = 4)"},
		{"PROCEDURE A(x: V; VAR y: V; VAR n: INTEGER; r: R); BEGIN y[1] := 3; ASSERT(x[1] = 3); v[1] := 4; ASSERT(x[1] = 4); n := 5; ASSERT(x[1] = 5); r2.x := 8; ASSERT(r.x = 8) END A;", "A(v, v, v[1], r2); ASSERT(v[1] = 5)"},
		{"PROCEDURE A(x: ARRAY OF INTEGER; VAR y: ARRAY OF INTEGER); BEGIN ASSERT(LEN(x) = 4); ASSERT(LEN(y) = 4); y[3] := 7; ASSERT(x[3] = 7) END A;", "A(w[1], w[1]); ASSERT(w[1][3] = 7); ASSERT(w[0][3] = 0)"},
		{"PROCEDURE A(VAR x: ARRAY OF V); BEGIN ASSERT(LEN(x) = 2); x[1][2] := 6; ASSERT(LEN(x[0]) = 4) END A;", "A(w); ASSERT(w[1][2] = 6)"},
		{"PROCEDURE A(VAR r: R; VAR s: R); BEGIN r.x := 2; s.c := \"q\"; s.v[0] := r.x END A;", "NEW(q); p := q; A(r, p^); ASSERT(r.x = 2); ASSERT(q.c = \"q\"); ASSERT(q.v[0] = 2)"},
		{"PROCEDURE A(n: BYTE): INTEGER; BEGIN n := n + 1 RETURN n END A;", "i := 511; ASSERT(A(i) = 0); ASSERT(A(254) = 255); y := 9; ASSERT(A(y) = 10); ASSERT(y = 9)"},
		{"PROCEDURE A(n: INTEGER): INTEGER; RETURN n + 1 END A;", "y := 255; ASSERT(A(y) = 256)"},
		{"PROCEDURE A(p: P): BOOLEAN; RETURN p = NIL END A;", "ASSERT(A(NIL)); NEW(q); ASSERT(~A(q))"},
		{"PROCEDURE A(VAR x: INTEGER); BEGIN NEW(p); x := 5 END A;", "NEW(p); pp := p; A(p.x); ASSERT(pp.x = 5); ASSERT(p.x = 0)"},
		{"PROCEDURE A(VAR x: INTEGER); BEGIN i := 0; x := 5 END A;", "i := 2; A(v[i]); ASSERT(v[2] = 5); ASSERT(v[0] = 0)"},
		{"PROCEDURE A(VAR x: INTEGER); BEGIN FOR x := 1 TO 3 DO ASSERT(x = i) END END A;", "A(i); ASSERT(i = 4)"},
		{"PROCEDURE B(VAR x: INTEGER); BEGIN INC(x) END B; PROCEDURE A(x: INTEGER): INTEGER; BEGIN B(x); B(x) RETURN x END A;", "i := 3; ASSERT(A(i) = 5); ASSERT(i = 3)"},
		{"PROCEDURE A(z: Z; VAR a: ARRAY OF Z); BEGIN ASSERT(LEN(a) = 3); a[2] := z END A;", "A(z, zz)"},
		{"PROCEDURE A(a, b, c, d, e, f, g, h: INTEGER): INTEGER; RETURN a + 2 * b + 4 * c + 8 * d + 16 * e + 32 * f + 64 * g + 128 * h END A;", "ASSERT(A(1, 0, 1, 0, 0, 1, 0, 1) = 165)"},
	} {
		haltsWith(t, x.proc, x.s, "")
	}
}

func TestManyParametersAndVariables(t *testing.T) { // P15.3: as many as there may be, of one module and of another; long open arrays
	var params, args, sum []string
	for i := range api.MaxParams {
		name := string(rune('a' + i))
		params = append(params, name)
		args = append(args, []string{"v", "w", "u", "x[i]"}[i%4])
		sum = append(sum, name+"["+strconv.Itoa(i)+"] * LEN("+name+")")
	}
	head := "PROCEDURE A*(VAR " + strings.Join(params[:4], ", ") + ": ARRAY OF INTEGER; " + strings.Join(params[4:], ", ") + ": ARRAY OF INTEGER): INTEGER; BEGIN INC(d[LEN(d) - 1]) RETURN " + strings.Join(sum, " + ") + " END A;"
	vars := "VAR i: INTEGER; v: ARRAY 9 OF INTEGER; w: ARRAY 300 OF INTEGER; u: ARRAY 4096 OF INTEGER; x: ARRAY 3 OF ARRAY 257 OF INTEGER; "
	do := "BEGIN i := 1; FOR i := 0 TO 8 DO v[i] := i; w[i] := 10 * i; u[i] := 100 * i; x[1][i] := 1000 * i END; i := 1; i := "
	const rest = "(" + "); ASSERT(i = 0*9 + 10*300 + 200*4096 + 3000*257 + 4*9 + 50*300 + 600*4096 + 7000*257); ASSERT(x[1][256] = 1); EMIT(\"k\")"
	call := strings.Replace(rest, "()", "("+strings.Join(args, ", ")+")", 1)
	does(t, "own", alone(t, vars+head+do+"A"+call), "", "k", halt())
	l := checked(t, "MODULE L; "+head+" END L.")
	does(t, "another's", []api.Mod{l, checked(t, "MODULE M; IMPORT L; "+vars+do+"L.A"+call+" END M.", l)}, "", "k", halt())
	const on = "VAR s: ARRAY 600 OF CHAR; PROCEDURE B(VAR a: ARRAY OF CHAR; i: INTEGER); BEGIN ASSERT(LEN(a) = 600); a[i] := \"k\" END B; PROCEDURE A(VAR a: ARRAY OF CHAR; i: INTEGER); BEGIN B(a, i) END A; "
	does(t, "handed on", alone(t, on+"BEGIN A(s, 599); EMIT(s[599]); A(s, 600)"), "", "k", trapped(api.TrapIndex))
	var names, set, ask []string
	for i := range api.MaxVars - 1 {
		names = append(names, "v"+strconv.Itoa(i))
		set, ask = append(set, names[i]+" := "+strconv.Itoa(i+1)), append(ask, "ASSERT("+names[i]+" = "+strconv.Itoa(i+1)+")")
	}
	many := "PROCEDURE A(p: INTEGER); VAR " + strings.Join(names, ", ") + ": INTEGER; BEGIN ASSERT(v0 + v198 = 0); " + strings.Join(set, "; ") + "; IF p > 0 THEN A(p - 1) END; " + strings.Join(ask, "; ") + "; EMIT(CHR(48 + p)) END A; BEGIN A(3)"
	does(t, "200 variables", alone(t, many), "", "0123", halt())
}

func TestResults(t *testing.T) { // P15.3: ECall is its Value, behind its Body; of a BYTE its lowest byte
	for _, x := range []struct{ proc, s, out string }{
		{"PROCEDURE A(n: INTEGER): BYTE; RETURN n END A;", "ASSERT(A(511) = 255); ASSERT(A(-1) = 255); ASSERT(A(256) = 0); ASSERT(A(7) = 7)", ""},
		{"PROCEDURE A(n: BYTE): INTEGER; RETURN n END A;", "ASSERT(A(255) + 1 = 256)", ""},
		{"PROCEDURE A(): BOOLEAN; RETURN i = 0 END A;", "ASSERT(A()); i := 1; ASSERT(~A())", ""},
		{"PROCEDURE A(): CHAR; RETURN \"x\" END A;", "EMIT(A())", "x"},
		{"PROCEDURE A(n: INTEGER): SET; RETURN {n} END A;", "ASSERT(A(3) + A(4) = {3, 4})", ""},
		{"PROCEDURE A(): P; VAR q: Q; BEGIN NEW(q); q.x := 4 RETURN q END A;", "ASSERT(A().x = 4); ASSERT(A() IS Q); p := A(); ASSERT(p # A()); ASSERT(A() # NIL)", ""},
		{"PROCEDURE A(): P; RETURN NIL END A;", "ASSERT(A() = NIL)", ""},
		{"PROCEDURE A(): INTEGER; VAR x: INTEGER; BEGIN EMIT(\"b\"); x := 2; i := 3 RETURN x * i END A;", "ASSERT(A() = 6)", "b"},
		{"PROCEDURE A(n: INTEGER): INTEGER; VAR x: INTEGER; BEGIN IF n < 2 THEN x := 1 ELSE x := n * A(n - 1) END RETURN x END A;", "ASSERT(A(10) = 3628800)", ""},
		{"PROCEDURE A(n: INTEGER): INTEGER; RETURN n + F(n) * F(F(n)) END A;", "ASSERT(A(3) = 12)", ""},
	} {
		haltsWith(t, x.proc, x.s, x.out)
	}
}

func TestFromTheLeft(t *testing.T) { // P15.3: values are taken when they are reckoned
	const a = "PROCEDURE A(n: INTEGER): INTEGER; BEGIN i := n RETURN 10 END A; PROCEDURE B(x, y: INTEGER): INTEGER; RETURN x * 100 + y END B; PROCEDURE C(VAR x: INTEGER; y: INTEGER): INTEGER; RETURN x * 100 + y END C; PROCEDURE D(): INTEGER; BEGIN NEW(p); p.x := 50 RETURN 2 END D;"
	for _, x := range []struct{ s, out string }{
		{"i := I(1, \"a\") + I(2, \"b\") * I(3, \"c\") - I(4, \"d\"); ASSERT(i = 3)", "abcd"},
		{"b := I(1, \"a\") < I(2, \"b\"); ASSERT(b)", "ab"},
		{"v[I(1, \"a\")] := I(2, \"b\"); w[I(1, \"c\")][I(2, \"d\")] := v[I(1, \"e\")]; ASSERT(w[1][2] = 2)", "abcde"},
		{"e := {I(1, \"a\"), I(2, \"b\")..I(3, \"c\")}; b := I(1, \"d\") IN e; ASSERT(b)", "abcd"},
		{"i := LSL(I(1, \"a\"), I(2, \"b\")); INC(v[I(0, \"c\")], I(2, \"d\"))", "abcd"},
		{"i := B(I(1, \"a\"), I(2, \"b\")); FOR i := I(1, \"c\") TO I(0, \"d\") DO END", "abcd"},
		{"i := 1; ASSERT(i + A(5) = 11); ASSERT(i = 5)", ""},
		{"i := 1; ASSERT(A(5) + i = 15)", ""},
		{"i := 1; ASSERT(B(i, A(5)) = 110)", ""},
		{"i := 1; ASSERT(C(i, A(5)) = 510)", ""},
		{"i := 1; v[i] := A(2); ASSERT(v[1] = 10); ASSERT(v[2] = 0)", ""},
		{"i := 1; v[1] := 7; v[2] := 8; ASSERT(v[i] + A(2) = 17); ASSERT(A(1) + v[i] = 17)", ""},
		{"NEW(p); pp := p; p.x := 1; ASSERT(p.x + D() = 3); p.x := D() + p.x; ASSERT(p.x = 50)", ""},
		{"NEW(p); pp := p; p.x := D(); ASSERT(pp.x = 2); ASSERT(p.x = 50)", ""},
		{"NEW(p); pp := p; INC(p.x, D()); ASSERT(pp.x = 2); ASSERT(p.x = 50)", ""},
		{"i := 1; INC(i, A(5)); ASSERT(i = 15); DEC(i, A(5)); ASSERT(i = -5)", ""},
		{"FOR i := 3 TO A(9) DO END; ASSERT(i = 11)", ""},
	} {
		haltsWith(t, a, x.s, x.out)
	}
}

func TestLoops(t *testing.T) { // P15.3: SIf, SWhile, SRepeat, SFor
	for _, x := range []struct{ s, out string }{
		{"IF E(\"f\") THEN EMIT(\"1\") ELSIF E(\"t\") THEN EMIT(\"2\") ELSIF E(\"t\") THEN EMIT(\"3\") ELSE EMIT(\"4\") END", "ft2"},
		{"IF E(\"f\") THEN EMIT(\"1\") ELSIF E(\"f\") THEN EMIT(\"2\") ELSE EMIT(\"4\") END", "ff4"},
		{"IF E(\"f\") THEN EMIT(\"1\") ELSIF E(\"f\") THEN EMIT(\"2\") END", "ff"},
		{"IF E(\"t\") THEN EMIT(\"1\") ELSE EMIT(\"2\") END", "t1"},
		{"WHILE i < 3 DO EMIT(CHR(48 + i)); INC(i) END", "012"},
		{"j := 2; WHILE j > 0 DO EMIT(\"j\"); DEC(j); INC(i) ELSIF i > 0 DO EMIT(\"i\"); DEC(i); IF ~d & (i = 1) THEN d := TRUE; j := 1 END END", "jjijii"},
		{"REPEAT EMIT(\"r\"); INC(i) UNTIL i >= 1", "r"},
		{"REPEAT EMIT(\"r\"); INC(i) UNTIL i = 3", "rrr"},
		{"FOR i := 2 TO 4 DO EMIT(CHR(48 + i)) END; ASSERT(i = 5)", "234"},
		{"FOR i := 4 TO 2 DO EMIT(\"x\") END; ASSERT(i = 4)", ""},
		{"FOR i := 4 TO 2 BY -1 DO EMIT(CHR(48 + i)) END; ASSERT(i = 1)", "432"},
		{"FOR i := 2 TO 4 BY -1 DO EMIT(\"x\") END; ASSERT(i = 2)", ""},
		{"FOR i := 3 TO 3 BY -5 DO EMIT(\"x\") END; ASSERT(i = -2)", "x"},
		{"FOR i := 0 TO 7 BY 3 DO EMIT(CHR(48 + i)) END; ASSERT(i = 9)", "036"},
		{"j := 3; FOR i := 0 TO j DO EMIT(CHR(48 + i)); j := 9 END", "0123"},
		{"j := 70002; FOR i := 70000 TO j DO EMIT(CHR(i - 70000 + 48)) END; ASSERT(i = 70003)", "012"},
		{"j := -300; FOR i := -302 TO j DO EMIT(CHR(i + 350)) END; FOR i := -298 TO j BY -1 DO EMIT(\"x\") END; ASSERT(i = -301)", "012xxx"},
		{"FOR i := -70001 TO -70000 DO EMIT(\"x\") END; FOR i := 70000 TO -70000 BY -70000 DO EMIT(\"y\") END; ASSERT(i = -140000)", "xxyyy"},
		{"FOR i := 0 TO 9 DO EMIT(CHR(48 + i)); i := i * 2 END; ASSERT(i = 15)", "0137"},
		{"FOR i := 2147483646 TO 2147483647 DO EMIT(\"x\"); IF i = 2147483647 THEN b := TRUE; HALT END END", "xx"},
		{"FOR i := 2147483647 TO 2147483647 DO INC(j); EMIT(\"x\"); IF j = 2 THEN ASSERT(i = -2147483647 - 1); HALT END END", "xx"},
		{"y := 3; FOR i := y TO y + 1 DO EMIT(CHR(48 + i)) END", "34"},
		{"FOR i := 0 TO 1 DO FOR j := 0 TO 1 DO EMIT(CHR(48 + 2 * i + j)) END END", "0123"},
	} {
		halts(t, x.s, x.out)
	}
}
