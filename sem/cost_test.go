package sem

import (
	"testing"

	"carrel/api"
)

// What each thing costs is counted by hand: ahead of each row's number stands nothing but the chapter.

func TestCostOfExpressions(t *testing.T) { // P14.1: fuel
	for _, x := range []struct {
		s    string
		used int64
	}{
		{"", 0},
		{"i := 1", 3},
		{"i := j", 3},
		{"i := +j", 3},
		{"i := -j", 4},
		{"i := -1", 3},
		{"i := 1 + 2 * k", 3},
		{"y := i", 3},
		{"i := y", 3},
		{"c := \"x\"", 3},
		{"b := ~d", 4},
		{"i := i + j * k", 7},
		{"i := (i - j) DIV k", 7},
		{"b := (i < j) & (j < i)", 6},
		{"b := (i = j) & (j < i)", 9},
		{"b := (i = j) OR (j < i)", 6},
		{"b := (i < j) OR (j < i)", 9},
		{"e := {}", 3},
		{"e := {1, 2..4}", 3},
		{"e := {i, 3..j}", 8},
		{"e := {i..3}", 6},
		{"e := {7..i}", 6},
		{"e := {i, i, i}", 9},
		{"e := e + f", 5},
		{"e := -f", 4},
		{"b := i IN e", 5},
		{"b := p = NIL", 5},
		{"w[1][i] := 2", 7},
		{"w[1] := w[0]", 11},
		{"i := ABS(j)", 4},
		{"b := ODD(j)", 4},
		{"i := LSL(j, 1)", 5},
		{"i := ASR(j, i)", 5},
		{"i := ROR(3, i)", 5},
		{"i := ORD(c)", 4},
		{"c := CHR(i)", 4},
		{"i := LEN(v)", 3},
		{"i := L.n", 3},
		{"i := L.k", 3},
		{"i := L.a[j]", 5},
		{"NEW(p); p.x := 1", 15},
		{"NEW(p); NEW(p.next); p.next.next := p", 10 + 12 + 7},
		{"NEW(q); p := q; b := p IS Q", 19},
		{"NEW(q); p := q; p(Q).y := 1", 21},
		{"NEW(q); p := q; q := p(Q)", 19},
		{"NEW(p); pp := G(p)", 10 + 6},
	} {
		asks(t, x.s, behind(t, x.s), "", "", halt(), x.used)
	}
}

func TestCostOfStatements(t *testing.T) { // P14.1: fuel
	for _, x := range []struct {
		s    string
		used int64
	}{
		{"v := u", 7},
		{"s := s", 5},
		{"yy := yy", 4},
		{"r := r2", 10},
		{"w := w", 11},
		{"z := zz[i]", 5},
		{"NEW(p); p^ := r", 21},
		{"NEW(q); p := q; p^ := r", 12 + 3 + 11},
		{"NEW(q); q^ := rr", 12 + 4 + 9},
		{"s := \"\"", 4},
		{"s := \"a\"", 4},
		{"s := \"abc\"", 4},
		{"s := \"abcd\"", 5},
		{"s := \"abcde\"", 5},
		{"NEW(p)", 10},
		{"NEW(q)", 12},
		{"NEW(zp)", 3},
		{"NEW(p); NEW(p.next)", 22},
		{"INC(i)", 3},
		{"INC(i, j)", 4},
		{"DEC(i)", 3},
		{"DEC(i, 3)", 4},
		{"INCL(e, i)", 4},
		{"EXCL(e, 3)", 4},
		{"ASSERT(i = 0)", 5},
		{"HALT", 2},
		{"HALT; i := 1", 2},
		{"IF b THEN i := 1 END", 2},
		{"IF ~b THEN END", 3},
		{"IF b THEN ELSE i := 1 END", 5},
		{"IF b THEN i := 1 ELSIF i = 0 THEN i := 2 ELSE i := 3 END", 8},
		{"WHILE b DO END", 3},
		{"WHILE i < 2 DO INC(i) END", 19},
		{"WHILE b DO ELSIF i < 2 DO INC(i) END", 22},
		{"REPEAT UNTIL TRUE", 3},
		{"REPEAT INC(i) UNTIL i = 2", 15},
		{"FOR i := 1 TO 0 DO END", 5},
		{"FOR i := j TO j + 1 DO END", 9},
		{"FOR i := 3 TO 1 BY -1 DO N END", 17},
		{"N", 3},
		{"N; N; N", 9},
		{"i := F(2)", 6},
		{"L.Set(3)", 15},
	} {
		asks(t, x.s, behind(t, x.s), "", "", halt(), x.used)
	}
	asks(t, "Say", behind(t, `L.Say("hi")`), "", "hi", halt(), 55)
	asks(t, "EMIT", behind(t, `EMIT("x")`), "", "x", halt(), 3)
	asks(t, "EMIT", behind(t, `EMIT(CHR(i + 48))`), "", "0", halt(), 6)
	asks(t, "TAKE", behind(t, `TAKE(c)`), "q", "", halt(), 3)
	asks(t, "TAKE", behind(t, `TAKE(s[i])`), "q", "", halt(), 5)
}

func TestCostOfCalls(t *testing.T) { // P14.1: own variables are paid for, each rounded up, behind the arguments; parameters are not
	for _, x := range []struct {
		proc, s string
		used    int64
	}{
		{"PROCEDURE A; VAR c: CHAR; END A;", "A", 4},
		{"PROCEDURE A; VAR c, d, e: CHAR; END A;", "A", 6},
		{"PROCEDURE A; VAR c: CHAR; s: ARRAY 5 OF CHAR; i: INTEGER; r: R; z: Z; END A;", "A", 14},
		{"PROCEDURE A; VAR x: ARRAY 1024 OF BYTE; END A;", "A", 259},
		{"PROCEDURE A(v: V; r: R; c: CHAR; VAR x: INTEGER; p: P); END A;", "A(v, r, c, i, NIL)", 8},
		{"PROCEDURE A(a: ARRAY OF INTEGER): INTEGER; RETURN LEN(a) END A;", "i := A(v)", 7},
		{"PROCEDURE A(a: ARRAY OF CHAR): INTEGER; RETURN LEN(a) END A;", "i := A(str) + A(s)", 14 - 1},
		{"PROCEDURE A(a: ARRAY OF CHAR; c: CHAR); BEGIN IF c # 0X THEN A(a, 0X) END END A;", "A(str, \"x\")", 5 + 4 + 5 + 4},
		{"PROCEDURE A(n: INTEGER): INTEGER; VAR x: SET; BEGIN IF n > 0 THEN n := A(n - 1) END RETURN n END A;", "i := A(1)", 6 + 4 + 6 + 2 + 4 + 1 + 1},
	} {
		asks(t, x.proc+x.s, behindProcs(t, x.proc, x.s), "", "", halt(), x.used)
	}
}

func TestCostAheadOfTraps(t *testing.T) { // P14.1: what is done ahead of each trap, and what no more
	const a = "PROCEDURE A(VAR a: ARRAY OF CHAR); BEGIN a := \"abcdef\" END A;"
	for _, x := range []struct {
		s    string
		out  string
		trap int
		used int64
	}{
		{"i := 4; v[i] := I(1, \"x\")", "", api.TrapIndex, 7},
		{"i := -1; v[i] := I(1, \"x\")", "", api.TrapIndex, 7},
		{"v[I(4, \"x\")] := I(1, \"y\")", "x", api.TrapIndex, 3 + 4 + 3 + 1},
		{"i := v[y + 4]", "", api.TrapIndex, 7},
		{"w[i + 2][I(0, \"x\")] := 1", "", api.TrapIndex, 7},
		{"p.x := I(1, \"x\")", "", api.TrapNil, 4},
		{"i := p.x", "", api.TrapNil, 5},
		{"p.v[I(9, \"x\")] := 1", "", api.TrapNil, 5},
		{"p^ := r", "", api.TrapNil, 3},
		{"r := p^", "", api.TrapNil, 4},
		{"p(Q).y := 1", "", api.TrapNil, 5},
		{"q := p(Q)", "", api.TrapNil, 4},
		{"p := p(P)", "", api.TrapNil, 4},
		{"NEW(p); p(Q).y := 1", "", api.TrapGuard, 15},
		{"NEW(p); q := p(Q)", "", api.TrapGuard, 14},
		{"NEW(q); p := q; t := p(T)", "", api.TrapGuard, 19},
		{"NEW(q); p := q; o := p(O)", "", api.TrapGuard, 19},
		{"A(s)", "", api.TrapCopy, 7},
		{"i := 32; e := {i, I(1, \"x\")}", "", api.TrapRange, 8},
		{"i := 32; e := {i..I(1, \"x\")}", "", api.TrapRange, 8},
		{"i := -1; e := {F(1)..i}", "", api.TrapRange, 12},
		{"e := {1, i..I(32, \"x\"), I(1, \"y\")}", "x", api.TrapRange, 3 + 2 + 2 + 3 + 1 + 3 + 1},
		{"i := 32; b := i IN f", "", api.TrapRange, 8},
		{"i := -1; b := i IN f", "", api.TrapRange, 8},
		{"i := 32; INCL(e, i)", "", api.TrapRange, 7},
		{"i := -1; EXCL(e, i)", "", api.TrapRange, 7},
		{"i := 256; c := CHR(i)", "", api.TrapRange, 7},
		{"i := -1; EMIT(CHR(i))", "", api.TrapRange, 7},
		{"i := j DIV j", "", api.TrapDivide, 5},
		{"j := -1; i := 5 MOD j", "", api.TrapDivide, 8},
		{"i := I(1, \"x\") DIV I(0, \"y\")", "xy", api.TrapDivide, 3 + 2*(4+3+1)},
		{"ASSERT(b)", "", api.TrapAssert, 3},
		{"FOR i := 1 DIV j TO I(1, \"x\") DO END", "", api.TrapDivide, 4},
		{"FOR i := I(1, \"x\") TO 1 DIV j DO END", "x", api.TrapDivide, 1 + 8 + 3},
		{"TAKE(s[i + 6])", "", api.TrapIndex, 7},
	} {
		asks(t, x.s, behindProcs(t, a, x.s), "", x.out, trapped(x.trap), x.used)
	}
	asks(t, "TAKE of what is not there", behind(t, "EMIT(\"a\"); TAKE(s[i])"), "", "a", wait(), 3+5)
}

func TestNoPartOfAPayment(t *testing.T) { // P14.1: if there is less than is to be paid, nothing is left
	mods := behind(t, "EMIT(\"a\"); v := u; EMIT(\"b\")")
	for fuel := int64(0); fuel <= 13; fuel++ {
		want := answer{out: "", end: api.End{Kind: api.EndBudget}}
		if fuel >= 3 {
			want.out = "a"
		}
		if fuel == 13 {
			want = answer{out: "ab", end: halt()}
		}
		if got := run3(mods, "", fuel); got != want {
			t.Errorf("%d: %v; want %v", fuel, got, want)
		}
	}
}

func TestHeap(t *testing.T) { // P14.1: NEW pays, then asks whether there is room
	for _, x := range []struct {
		s    string
		end  api.End
		used int64
	}{
		{"FOR i := 1 TO 2048 DO NEW(p) END; EMIT(\"k\")", halt(), 4 + 2049 + 20480 + 3},
		{"FOR i := 1 TO 2048 DO NEW(p) END; EMIT(\"k\"); NEW(zp)", trapped(api.TrapHeap), 4 + 2049 + 20480 + 3 + 3},
		{"FOR i := 1 TO 2048 DO NEW(p) END; EMIT(\"k\"); NEW(p)", trapped(api.TrapHeap), 4 + 2049 + 20480 + 3 + 10},
		{"FOR i := 1 TO 2047 DO NEW(p) END; EMIT(\"k\"); NEW(q)", trapped(api.TrapHeap), 4 + 2048 + 20470 + 3 + 12},
		{"FOR i := 1 TO 16384 DO NEW(zp) END; EMIT(\"k\"); NEW(zp)", trapped(api.TrapHeap), 4 + 16385 + 3*16384 + 3 + 3},
	} {
		asks(t, x.s, behind(t, x.s), "", "k", x.end, x.used)
	}
	const great = "TYPE P = POINTER TO R; R = RECORD a: ARRAY 4095 OF INTEGER END; VAR p, q: P; BEGIN "
	asks(t, "four great ones", alone(t, great+"NEW(p); q := p; NEW(p); NEW(p); NEW(p); ASSERT(p # q); NEW(p)"), "", "", trapped(api.TrapHeap), 5*(3+4095)+3+5)
}

func TestCallsWithinOneAnother(t *testing.T) { // P14.1: 64 are under way at most; arguments and what is paid come first
	const a = "PROCEDURE A(n: INTEGER): INTEGER; VAR v: ARRAY 3 OF INTEGER; BEGIN IF n > 1 THEN n := A(n - 1) END RETURN n END A; BEGIN "
	each := int64(1 + 4 + 4 + 1) // ECall, what is paid, IF n > 1, RETURN n
	more := int64(2 + 3)         // n :=, n - 1
	asks(t, "64", alone(t, a+"ASSERT(A(64) = 1); EMIT(\"k\")"), "", "k", halt(), 3+1+1+64*each+63*more+3)
	asks(t, "65", alone(t, a+"ASSERT(A(65) = 1); EMIT(\"k\")"), "", "", trapped(api.TrapStack), 3+1+64*each-64+64*more+1+4)
	const b = "PROCEDURE B(n: INTEGER); BEGIN B(n + 1 + 0 * (9 DIV (63 - n))) END B; BEGIN B(0)"
	if got := run3(alone(t, b), "", much); got.end != trapped(api.TrapDivide) {
		t.Errorf("its arguments are not reckoned ahead of trap 9: %v", got)
	}
	const c = "PROCEDURE C(n: INTEGER): INTEGER; RETURN n END C; PROCEDURE B(n: INTEGER); BEGIN EMIT(\".\"); IF n > 0 THEN B(C(n) - 1) END END B; BEGIN B(62); EMIT(\"k\"); B(63)"
	if got := run3(alone(t, c), "", much); got.end != halt() || len(got.out) != 63+1+64 {
		t.Errorf("an argument's call is within the one that it is handed to: %v", got)
	}
}
