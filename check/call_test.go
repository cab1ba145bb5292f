package check

import (
	"fmt"
	"testing"

	"carrel/api"
)

func TestCalls(t *testing.T) { // P12.1: procedures and standard ones
	for _, x := range []struct{ statement, want string }{
		{"N", "do(call-1.0:0)"},
		{"N()", "do(call-1.0:0)"},
		{"L.P", "do(call0.0:0)"},
		{"L.P()", "do(call0.0:0)"},
		{"i := L.F(i)", "assign(g-1.0:1 call0.1:1(g-1.0:1))"},
		{"i := L.F(y)", "assign(g-1.0:1 call0.1:1(g-1.4:4))"},
		{`L.G(c, "abc")`, "do(call0.2:0(g-1.3:3 $0:7))"},
		{`L.G(s[0], s)`, "do(call0.2:0(index:3(g-1.7:12 #0:1) g-1.7:12))"},
		{"c := L.H(v)", "assign(g-1.3:3 call0.3:3(g-1.6:11))"},
		{"c := L.H(w[1])", "assign(g-1.3:3 call0.3:3(index:11(g-1.13:19 #1:1)))"},
		{"Z(i, s)", "do(call-1.2:0(g-1.0:1 g-1.7:12))"},
		{"Z(r.x, p.s)", "do(call-1.2:0(field0:1(g-1.11:14) field28:12(deref:14(g-1.8:13))))"},
		{`T("", "x")`, "do(call-1.3:0($0:7 #120:3))"},
		{`T("x", one)`, "do(call-1.3:0($0:7 #121:3))"},
		{`T(str, kc)`, "do(call-1.3:0($0:7 #65:3))"},
		{`T(L.s, L.one)`, "do(call-1.3:0($0:7 #121:3))"},
		{"T(s, c)", "do(call-1.3:0(g-1.7:12 g-1.3:3))"},
		{"X(v, r, NIL, s, 999)", "do(call-1.5:0(g-1.6:11 g-1.11:14 #0:6 g-1.7:12 #999:1))"},
		{"X(w[0], p^, q, r.s, y)", "do(call-1.5:0(index:11(g-1.13:19 #0:1) deref:14(g-1.8:13) g-1.9:15 field28:12(g-1.11:14) g-1.4:4))"},
		{"Y(v, r, p, v)", "do(call-1.6:0(g-1.6:11 g-1.11:14 g-1.8:13 g-1.6:11))"},
		{"Y(p.v, p^, p.next, w[i])", "do(call-1.6:0(field8:11(deref:14(g-1.8:13)) deref:14(g-1.8:13) field24:13(deref:14(g-1.8:13)) index:11(g-1.13:19 g-1.0:1)))"},
		{"i := ABS(i) + ABS(y)", "assign(g-1.0:1 add:1(ABS:1(g-1.0:1) ABS:1(g-1.4:4)))"},
		{"b := ODD(y)", "assign(g-1.2:2 ODD:2(g-1.4:4))"},
		{"i := LEN(v) + LEN(w[i]) + LEN(p.s) + LEN(L.a)", "assign(g-1.0:1 #17:1)"},
		{"i := LSL(i, 1) + ASR(1, i)", "assign(g-1.0:1 add:1(LSL:1(g-1.0:1 #1:1) ASR:1(#1:1 g-1.0:1)))"},
		{"i := ROR(y, y)", "assign(g-1.0:1 ROR:1(g-1.4:4 g-1.4:4))"},
		{"i := ORD(c) + ORD(b) + ORD(e) + ORD(y)", "assign(g-1.0:1 add:1(add:1(add:1(ORD:1(g-1.3:3) ORD:1(g-1.2:2)) ORD:1(g-1.5:5)) ORD:1(g-1.4:4)))"},
		{`i := ORD("x")`, "assign(g-1.0:1 #120:1)"},
		{"i := ORD(+y)", "assign(g-1.0:1 ORD:1(g-1.4:4))"},
		{"c := CHR(i)", "assign(g-1.3:3 CHR:3(g-1.0:1))"},
		{"c := CHR(y)", "assign(g-1.3:3 CHR:3(g-1.4:4))"},
		{"i := SYSTEM.ADR(i)", "assign(g-1.0:1 ADR:1(g-1.0:1))"},
		{"i := SYSTEM.ADR(p^)", "assign(g-1.0:1 ADR:1(deref:14(g-1.8:13)))"},
		{"i := SYSTEM.ADR(L.a[1])", "assign(g-1.0:1 ADR:1(index:1(g0.1:8 #1:1)))"},
		{"i := SYSTEM.ADR(L.i)", "assign(g-1.0:1 ADR:1(g0.0:1))"},
		{"INC(i)", "do(INC:0(g-1.0:1))"},
		{"INC(i, y)", "do(INC:0(g-1.0:1 g-1.4:4))"},
		{"DEC(v[0])", "do(DEC:0(index:1(g-1.6:11 #0:1)))"},
		{"DEC(p.x, -1)", "do(DEC:0(field0:1(deref:14(g-1.8:13)) #-1:1))"},
		{"INCL(e, i); EXCL(e, y)", "do(INCL:0(g-1.5:5 g-1.0:1)); do(EXCL:0(g-1.5:5 g-1.4:4))"},
		{"INCL(e, 0); EXCL(rr.z, 31)", "do(INCL:0(g-1.5:5 #0:1)); do(EXCL:0(field36:5(g-1.12:16) #31:1))"},
		{"NEW(p); NEW(p.next)", "do(NEW:0(g-1.8:13)); do(NEW:0(field24:13(deref:14(g-1.8:13))))"},
		{"ASSERT(b); ASSERT(TRUE)", "do(ASSERT:0(g-1.2:2)); do(ASSERT:0(#1:2))"},
		{`EMIT(c); EMIT("x"); EMIT(0AX); EMIT(one)`, "do(EMIT:0(g-1.3:3)); do(EMIT:0(#120:3)); do(EMIT:0(#10:3)); do(EMIT:0(#121:3))"},
		{"TAKE(c); TAKE(s[i])", "do(TAKE:0(g-1.3:3)); do(TAKE:0(index:3(g-1.7:12 g-1.0:1)))"},
		{"HALT; HALT()", "do(HALT:0); do(HALT:0)"},
		{"SYSTEM.GET(i, j); SYSTEM.GET(-64, c); SYSTEM.GET(y, y)", "do(GET:0(g-1.0:1 g-1.1:1)); do(GET:0(#-64:1 g-1.3:3)); do(GET:0(g-1.4:4 g-1.4:4))"},
		{`SYSTEM.PUT(i, 1); SYSTEM.PUT(i, "x"); SYSTEM.PUT(y, c); SYSTEM.PUT(0, y)`,
			"do(PUT:0(g-1.0:1 #1:1)); do(PUT:0(g-1.0:1 #120:3)); do(PUT:0(g-1.4:4 g-1.3:3)); do(PUT:0(#0:1 g-1.4:4))"},
		{"SYSTEM.CALL(i); SYSTEM.CALL(y)", "do(CALL:0(g-1.0:1)); do(CALL:0(g-1.4:4))"},
	} {
		gives(t, x.statement, x.want)
	}
}

func TestWrongCalls(t *testing.T) { // P12.1: calls, in the order that is told
	for _, x := range []struct {
		statement string
		e         api.Errno
	}{
		{"@nothing", api.ErrCheckName},
		{"@nothing(x)", api.ErrCheckName},
		{"@i", api.ErrCheckName},
		{"@i(1)", api.ErrCheckName},
		{"@k", api.ErrCheckName},
		{"@R", api.ErrCheckName},
		{"@R()", api.ErrCheckName},
		{"@INTEGER(i)", api.ErrCheckName},
		{"@L", api.ErrCheckName},
		{"@L(1)", api.ErrCheckName},
		{"L@.nothing", api.ErrCheckName},
		{"L@.i", api.ErrCheckName},
		{"L@.n(x)", api.ErrCheckName},
		{"SYSTEM@.nothing(x)", api.ErrCheckName},
		{"SYSTEM@.ABS(x)", api.ErrCheckName},
		{"@nothing.P", api.ErrCheckName},
		{"@R.P", api.ErrCheckName},
		{"r@.x", api.ErrCheckType},
		{"r.x@(1)", api.ErrCheckType},
		{"r@.nothing(1)", api.ErrCheckName},
		{"v@[0]", api.ErrCheckType},
		{"v[0]@(x)", api.ErrCheckType},
		{"v[@x](1)", api.ErrCheckName},
		{"p@^", api.ErrCheckType},
		{"p^@()", api.ErrCheckType},
		{"F(1)@(2)", api.ErrCheckType},
		{"F@()(2)", api.ErrCheckArgs},
		{"N@()(2)", api.ErrCheckType},
		{"G()@.x", api.ErrCheckType},
		{"G()@.nothing", api.ErrCheckName},
		{"@p(Q)", api.ErrCheckName},
		{"p(Q)@.x", api.ErrCheckType},
		{"p(Q)@(Q)", api.ErrCheckType},
		{"@F", api.ErrCheckType},
		{"F@(1)", api.ErrCheckType},
		{"F@(x, y)", api.ErrCheckType},
		{"L@.F", api.ErrCheckType},
		{"L.F@(1)", api.ErrCheckType},
		{"@ABS", api.ErrCheckType},
		{"ABS@(x)", api.ErrCheckType},
		{"ODD@(1)", api.ErrCheckType},
		{"LEN@(v)", api.ErrCheckType},
		{"SYSTEM@.ADR", api.ErrCheckType},
		{"SYSTEM.ADR@(i)", api.ErrCheckType},
		{"i := N@()", api.ErrCheckType},
		{"i := N@(x)", api.ErrCheckType},
		{"i := L.P@()", api.ErrCheckType},
		{"i := INC@(i)", api.ErrCheckType},
		{"i := HALT@()", api.ErrCheckType},
		{"i := SYSTEM.GET@(i, j)", api.ErrCheckType},
		{"N@(1)", api.ErrCheckArgs},
		{"N@(x)", api.ErrCheckArgs},
		{"@Z", api.ErrCheckArgs},
		{"Z@()", api.ErrCheckArgs},
		{"Z@(i)", api.ErrCheckArgs},
		{"Z@(i, s, s)", api.ErrCheckArgs},
		{"L@.G", api.ErrCheckArgs},
		{"L.G@(c)", api.ErrCheckArgs},
		{"i := F@()", api.ErrCheckArgs},
		{"i := F@(1, 2)", api.ErrCheckArgs},
		{"Z(@x, z)", api.ErrCheckName},
		{"Z(@k, x)", api.ErrCheckVar},
		{"Z(i @+ 1, x)", api.ErrCheckVar},
		{"Z(@+i, x)", api.ErrCheckVar},
		{"Z(F@(1), x)", api.ErrCheckVar},
		{"Z(L@.i, x)", api.ErrCheckVar},
		{"Z(L.a@[0], x)", api.ErrCheckVar},
		{"Z(@b, x)", api.ErrCheckType},
		{"Z(@y, x)", api.ErrCheckType},
		{"Z(@c, x)", api.ErrCheckType},
		{"Z(i, @x)", api.ErrCheckName},
		{"Z(i, @str)", api.ErrCheckVar},
		{`Z(i, @"abc")`, api.ErrCheckVar},
		{"Z(i, @v)", api.ErrCheckType},
		{"Z(i, @c)", api.ErrCheckType},
		{`L.G(@"x", s)`, api.ErrCheckVar},
		{"L.G(@L, s)", api.ErrCheckName},
		{"T(@c, c)", api.ErrCheckType},
		{"T(@v, c)", api.ErrCheckType},
		{"T(@kc, c)", api.ErrCheckType},
		{`T(s, @"xy")`, api.ErrCheckType},
		{`T(s, @"")`, api.ErrCheckType},
		{"T(s, @i)", api.ErrCheckType},
		{"T(s, @s)", api.ErrCheckType},
		{"T(s, s@[6])", api.ErrCheckConst},
		{"X(@L, r, p, s, 1)", api.ErrCheckName},
		{"X(L@.a, r, p, s, 1)", api.ErrCheckType},
		{"X(v, @rr, p, s, 1)", api.ErrCheckType},
		{"X(v, r, @o, s, 1)", api.ErrCheckType},
		{"X(v, r, @r, s, 1)", api.ErrCheckType},
		{`X(v, r, p, @"abc", 1)`, api.ErrCheckType},
		{`X(v, r, p, @"x", 1)`, api.ErrCheckType},
		{"X(v, r, p, s, @c)", api.ErrCheckType},
		{"Y(L@.a, r, p, v)", api.ErrCheckVar},
		{"Y(v, @rr, p, v)", api.ErrCheckType},
		{"Y(v, r, @q, v)", api.ErrCheckType},
		{"Y(v, r, p@(Q), v)", api.ErrCheckVar},
		{"Y(v, r, @NIL, v)", api.ErrCheckVar},
		{"Y(v, r, p, @w)", api.ErrCheckType},
		{"Y(v, r, p, @s)", api.ErrCheckType},
		{"c := L.H(L@.a)", api.ErrCheckVar},
		{"p := p@(O)", api.ErrCheckType},
		{"p := p@(R)", api.ErrCheckType},
		{"p := q@(P)", api.ErrCheckType},
		{"p := i@(Q)", api.ErrCheckType},
		{"p := r@(Q)", api.ErrCheckType},
		{"p := p@(INTEGER)", api.ErrCheckType},
		{"p := L.i@(Q)", api.ErrCheckType},
		{"p := @nothing(Q)", api.ErrCheckName},
		{"p := L@.nothing(Q)", api.ErrCheckName},
		{"p := SYSTEM@.nothing(Q)", api.ErrCheckName},
		{"p := @R(Q)", api.ErrCheckName},
		{"p := @SET(Q)", api.ErrCheckName},
		{"p := @L(Q)", api.ErrCheckName},
		{"p := p.x@(Q)", api.ErrCheckType},
		{"p := p@.nothing(Q)", api.ErrCheckName},
		{"p := p(Q)@(P)", api.ErrCheckType},
		{"i := ABS(@Q)", api.ErrCheckName},
		{"i := F(@Q)", api.ErrCheckName},
		{"p := N@(Q)", api.ErrCheckType},
		{"p := @p(nothing)", api.ErrCheckName},
		{"p := @p(p)", api.ErrCheckName},
		{"p := @p(Q, Q)", api.ErrCheckName},
		{"p := @p()", api.ErrCheckName},
		{"p := @p(1)", api.ErrCheckName},
		{"p := L@.i(1)", api.ErrCheckName},
		{"p := p.next@(1)", api.ErrCheckType},
		{"p := p.next@(x, z)", api.ErrCheckType},
		{"i := F(1)@(2)", api.ErrCheckType},
		{"i := @x.z(2)", api.ErrCheckName},
		{"@p(Q) := q", api.ErrCheckVar},
	} {
		wrong(t, source(x.statement), x.e)
	}
	wrong(t, "MODULE M; VAR i: INTEGER; BEGIN i := @SYSTEM.ADR(i) END M.", api.ErrCheckName)
	wrong(t, "MODULE M; VAR i: INTEGER; BEGIN @SYSTEM.PUT(i, i) END M.", api.ErrCheckName)
	wrong(t, "MODULE M; VAR i: INTEGER; BEGIN @ADR(i) END M.", api.ErrCheckName)
	wrong(t, "MODULE M; IMPORT SYSTEM; PROCEDURE P; VAR SYSTEM: RECORD GET: CHAR END; BEGIN SYSTEM.GET@(1) END P; END M.", api.ErrCheckType)
	wrong(t, "MODULE M; IMPORT L; PROCEDURE P; VAR L: RECORD P: CHAR END; BEGIN L@.P END P; END M.", api.ErrCheckType)
	right(t, "MODULE M; IMPORT L; PROCEDURE P; VAR L: RECORD P: CHAR END; BEGIN L.P := 0X END P; BEGIN L.P END M.")
}

func TestWrongStandardCalls(t *testing.T) { // P12.1: the tables of standard functions and procedures
	for _, x := range []struct {
		statement string
		e         api.Errno
	}{
		{"i := ABS@()", api.ErrCheckArgs}, {"i := ABS@(x, x)", api.ErrCheckArgs},
		{"i := ABS(@b)", api.ErrCheckType}, {"i := ABS(@e)", api.ErrCheckType}, {`i := ABS(@"x")`, api.ErrCheckType}, {"i := ABS(@x)", api.ErrCheckName},
		{"b := ODD@()", api.ErrCheckArgs}, {"b := ODD(@c)", api.ErrCheckType},
		{"i := LEN@()", api.ErrCheckArgs}, {"i := LEN(@i)", api.ErrCheckType}, {"i := LEN(@p)", api.ErrCheckType}, {"i := LEN(@str)", api.ErrCheckVar},
		{`i := LEN(@"abc")`, api.ErrCheckVar}, {"i := LEN(L@.s)", api.ErrCheckVar}, {"i := LEN(F@(1))", api.ErrCheckVar}, {"i := LEN(v@[4])", api.ErrCheckConst},
		{"i := LEN(@S)", api.ErrCheckName}, {"i := LEN(@k)", api.ErrCheckVar}, {"i := LEN(@+i)", api.ErrCheckVar},
		{"i := LSL@(1)", api.ErrCheckArgs}, {"i := LSL@(1, 2, 3)", api.ErrCheckArgs}, {"i := LSL(@b, x)", api.ErrCheckType}, {"i := LSL(1, @b)", api.ErrCheckType},
		{"i := ASR@(1)", api.ErrCheckArgs}, {"i := ASR(@e, 1)", api.ErrCheckType}, {"i := ASR(1, @c)", api.ErrCheckType},
		{"i := ROR@()", api.ErrCheckArgs}, {"i := ROR(@x, b)", api.ErrCheckName}, {"i := ROR(i, @NIL)", api.ErrCheckType},
		{"i := ORD@()", api.ErrCheckArgs}, {"i := ORD(@i)", api.ErrCheckType}, {"i := ORD(@1)", api.ErrCheckType}, {`i := ORD(@"ab")`, api.ErrCheckType},
		{`i := ORD(@"")`, api.ErrCheckType}, {"i := ORD(@p)", api.ErrCheckType}, {"i := ORD(@s)", api.ErrCheckType},
		{"c := CHR@()", api.ErrCheckArgs}, {"c := CHR(@c)", api.ErrCheckType}, {`c := CHR(@"x")`, api.ErrCheckType},
		{"c := CHR@(256)", api.ErrCheckConst}, {"c := CHR@(-1)", api.ErrCheckConst}, {"c := CHR@(k - 6)", api.ErrCheckConst},
		{"i := SYSTEM.ADR@()", api.ErrCheckArgs}, {"i := SYSTEM.ADR(@1)", api.ErrCheckVar}, {"i := SYSTEM.ADR(@F)", api.ErrCheckName},
		{"i := SYSTEM.ADR(p@(Q))", api.ErrCheckVar}, {"i := SYSTEM.ADR(@str)", api.ErrCheckVar}, {"i := SYSTEM.ADR(@+i)", api.ErrCheckVar},
		{"@INC", api.ErrCheckArgs}, {"INC@()", api.ErrCheckArgs}, {"INC@(i, i, i)", api.ErrCheckArgs}, {"INC(@k)", api.ErrCheckVar}, {"INC(@y)", api.ErrCheckType},
		{"INC(@c)", api.ErrCheckType}, {"INC(L@.i)", api.ErrCheckVar}, {"INC(L.a@[0])", api.ErrCheckVar}, {"INC(L@.y)", api.ErrCheckVar}, {"INC(i, @b)", api.ErrCheckType}, {"INC(@b, x)", api.ErrCheckType},
		{"DEC@()", api.ErrCheckArgs}, {"DEC(@1)", api.ErrCheckVar}, {"DEC(@e)", api.ErrCheckType}, {"DEC(i, @c)", api.ErrCheckType}, {"DEC(i, @x)", api.ErrCheckName},
		{"INCL@(e)", api.ErrCheckArgs}, {"INCL@(e, 1, 2)", api.ErrCheckArgs}, {"INCL(@ks, 1)", api.ErrCheckVar}, {"INCL(@i, 1)", api.ErrCheckType},
		{"INCL(e, @b)", api.ErrCheckType}, {"INCL(e, @32)", api.ErrCheckConst}, {"INCL(e, @-1)", api.ErrCheckConst}, {"INCL(e, 16 @+ 16)", api.ErrCheckConst}, {"INCL(@i, 32)", api.ErrCheckType},
		{"EXCL@(e)", api.ErrCheckArgs}, {"EXCL(@{}, 1)", api.ErrCheckVar}, {"EXCL(e, @c)", api.ErrCheckType}, {"EXCL(e, @32)", api.ErrCheckConst},
		{"NEW@()", api.ErrCheckArgs}, {"NEW(@r)", api.ErrCheckType}, {"NEW(@i)", api.ErrCheckType}, {"NEW(@P)", api.ErrCheckName}, {"NEW(@NIL)", api.ErrCheckVar}, {"NEW(G@())", api.ErrCheckVar},
		{"ASSERT@()", api.ErrCheckArgs}, {"ASSERT(@i)", api.ErrCheckType}, {"ASSERT(@1)", api.ErrCheckType}, {"@ASSERT", api.ErrCheckArgs},
		{"EMIT@()", api.ErrCheckArgs}, {"EMIT(@i)", api.ErrCheckType}, {`EMIT(@"xy")`, api.ErrCheckType}, {`EMIT(@"")`, api.ErrCheckType}, {"EMIT(@s)", api.ErrCheckType}, {"EMIT(@y)", api.ErrCheckType},
		{"TAKE@()", api.ErrCheckArgs}, {"TAKE(@kc)", api.ErrCheckVar}, {`TAKE(@"x")`, api.ErrCheckVar}, {"TAKE(@y)", api.ErrCheckType}, {"TAKE(@s)", api.ErrCheckType},
		{"HALT@(1)", api.ErrCheckArgs}, {"HALT@(x)", api.ErrCheckArgs},
		{"SYSTEM.GET@(1)", api.ErrCheckArgs}, {"SYSTEM.GET(@b, x)", api.ErrCheckType}, {"SYSTEM.GET(1, @1)", api.ErrCheckVar}, {"SYSTEM.GET(1, @b)", api.ErrCheckType},
		{"SYSTEM.GET(1, @e)", api.ErrCheckType}, {"SYSTEM.GET(1, L@.i)", api.ErrCheckVar}, {`SYSTEM.GET(1, @"x")`, api.ErrCheckVar}, {"SYSTEM.GET(1, @p)", api.ErrCheckType},
		{"SYSTEM.PUT@(1)", api.ErrCheckArgs}, {"SYSTEM.PUT(@c, 1)", api.ErrCheckType}, {`SYSTEM.PUT(@"x", 1)`, api.ErrCheckType}, {"SYSTEM.PUT(1, @b)", api.ErrCheckType},
		{"SYSTEM.PUT(1, @e)", api.ErrCheckType}, {`SYSTEM.PUT(1, @"xy")`, api.ErrCheckType}, {"SYSTEM.PUT(1, @NIL)", api.ErrCheckType}, {"SYSTEM.PUT(1, @x)", api.ErrCheckName},
		{"SYSTEM.CALL@()", api.ErrCheckArgs}, {"SYSTEM@.CALL", api.ErrCheckArgs}, {"SYSTEM.CALL(@b)", api.ErrCheckType}, {"SYSTEM.CALL(@N)", api.ErrCheckName},
	} {
		wrong(t, source(x.statement), x.e)
	}
}

// inProc is a procedure with parameters of all sorts, and statements.
func inProc(statements string) string {
	return "MODULE M; TYPE V = ARRAY 4 OF INTEGER; R = RECORD x: INTEGER; v: V END; P = POINTER TO R; " +
		"PROCEDURE Set(VAR a: INTEGER); END Set; PROCEDURE Open(a: ARRAY OF INTEGER); END Open; PROCEDURE Text(a: ARRAY OF CHAR); END Text; " +
		"PROCEDURE T(i: INTEGER; r: R; v: V; p: P; s: ARRAY OF CHAR; VAR d: R; VAR u: ARRAY OF CHAR; VAR n: ARRAY OF INTEGER); " +
		"VAR w: V; l: R; c: CHAR; BEGIN " + statements + " END T; END M."
}

func TestParameters(t *testing.T) { // P12.1: which variables may be set
	for _, x := range []struct{ statements, want string }{
		{"i := 1; INC(i); Set(i)", "assign(l0:1 #1:1); do(INC:0(l0:1)); do(call-1.0:0(l0:1))"},
		{"p := NIL; NEW(p); p.x := i; p.v[0] := 1; p^ := r", "assign(l3:10 #0:6); do(NEW:0(l3:10)); assign(field0:1(deref:9(l3:10)) l0:1); " +
			"assign(index:1(field4:8(deref:9(l3:10)) #0:1) #1:1); assign(deref:9(l3:10) l1:9)"},
		{"d := r; d.x := r.x; d.v := v; d.v[i] := v[3]", "assign(l5:9 l1:9); assign(field0:1(l5:9) field0:1(l1:9)); assign(field4:8(l5:9) l2:8); assign(index:1(field4:8(l5:9) l0:1) index:1(l2:8 #3:1))"},
		{`u[9] := s[-1]; n[0] := 1; u := "a longer text"; u := ""`, "assign(index:3(l6:14 #9:1) index:3(l4:13 #-1:1)); assign(index:1(l7:15 #0:1) #1:1); string(l6:14 $0:7); string(l6:14 $1:7)"},
		{"w := v; w[0] := 1; l := d; l.v := w", "assign(l8:8 l2:8); assign(index:1(l8:8 #0:1) #1:1); assign(l9:9 l5:9); assign(field4:8(l9:9) l8:8)"},
		{"i := LEN(s) + LEN(u) + LEN(v) + LEN(d.v)", "assign(l0:1 add:1(add:1(add:1(LEN:1(l4:13) LEN:1(l6:14)) #4:1) #4:1))"},
		{"Open(v); Open(n); Open(r.v); Text(s); Text(u)", "do(call-1.1:0(l2:8)); do(call-1.1:0(l7:15)); do(call-1.1:0(field4:8(l1:9))); do(call-1.2:0(l4:13)); do(call-1.2:0(l6:14))"},
		{"FOR i := 0 TO LEN(n) - 1 DO n[i] := i END", "for1(l0:1 #0:1 sub:1(LEN:1(l7:15) #1:1)){assign(index:1(l7:15 l0:1) l0:1)}"},
		{`c := "x"; c := s[0]`, `assign(l10:3 #120:3); assign(l10:3 index:3(l4:13 #0:1))`},
	} {
		m := right(t, inProc(x.statements))
		if got := tellStats(m.Procs[len(m.Procs)-1].Body); got != x.want {
			t.Errorf("%s: %s", x.statements, got)
		}
	}
	for _, x := range []struct {
		statements string
		e          api.Errno
	}{
		{"@r := d", api.ErrCheckVar}, {"@r.x := 1", api.ErrCheckVar}, {"@r.v[0] := 1", api.ErrCheckVar}, {"@v := w", api.ErrCheckVar}, {"@v[0] := 1", api.ErrCheckVar},
		{"@s[0] := 0X", api.ErrCheckVar}, {`@s := "a"`, api.ErrCheckVar}, {"Set(v@[0])", api.ErrCheckVar}, {"Set(r@.x)", api.ErrCheckVar}, {"INC(r@.x)", api.ErrCheckVar},
		{"TAKE(s@[0])", api.ErrCheckVar}, {"@FOR r := 0 TO 1 DO END", api.ErrCheckVar}, {"@FOR v := 0 TO 1 DO END", api.ErrCheckVar}, {"@FOR s := 0 TO 1 DO END", api.ErrCheckVar},
		{"@FOR u := 0 TO 1 DO END", api.ErrCheckType}, {"@FOR d := 0 TO 1 DO END", api.ErrCheckType}, {"@FOR p := 0 TO 1 DO END", api.ErrCheckType},
		{"@u := s", api.ErrCheckType}, {"@u := u", api.ErrCheckType}, {`@n := "abc"`, api.ErrCheckType}, {"@n := n", api.ErrCheckType}, {"@w := n", api.ErrCheckType},
		{"Open(@s)", api.ErrCheckType}, {`Open(@"abc")`, api.ErrCheckType}, {"Open(@i)", api.ErrCheckType}, {"Text(@c)", api.ErrCheckType},
	} {
		wrong(t, inProc(x.statements), x.e)
	}
	for _, s := range []string{"INCL(r@.e, 1)", "EXCL(r@.e, 1)", "NEW(r@.p)", "@r.p := NIL", "SYSTEM.GET(0, r@.c)"} {
		wrong(t, "MODULE M; IMPORT SYSTEM; TYPE P = POINTER TO R; R = RECORD e: SET; p: P; c: CHAR END; PROCEDURE T(r: R); BEGIN "+s+" END T; END M.", api.ErrCheckVar)
	}
	right(t, "MODULE M; TYPE P = POINTER TO R; R = RECORD e: SET; p: P END; PROCEDURE T(r: R); BEGIN INCL(r.p.e, 1); NEW(r.p.p); r.p.p := NIL END T; END M.")
}

func TestStrings(t *testing.T) { // P12.1: each once, in the order in which they are needed; at most 200
	m := right(t, source(`s := "b"; T("a", "q"); T("b", "a"); s := ""; T(str, one); s := str; L.G(c, "z"); EMIT("n"); b := c = "m"; T("q", c)`))
	if got := fmt.Sprintf("%q", m.Strings); got != `["b" "a" "" "abc" "z" "q"]` {
		t.Error(got)
	}
	if got := tellStats(m.Init); got != "string(g-1.7:12 $0:7); do(call-1.3:0($1:7 #113:3)); do(call-1.3:0($0:7 #97:3)); string(g-1.7:12 $2:7); do(call-1.3:0($3:7 #121:3)); "+
		"string(g-1.7:12 $3:7); do(call0.2:0(g-1.3:3 $4:7)); do(EMIT:0(#110:3)); assign(g-1.2:2 eq:2(g-1.3:3 #109:3)); do(call-1.3:0($5:7 g-1.3:3))" {
		t.Error(got)
	}
	m = right(t, `MODULE M; CONST a = "unused"; b = "used"; TYPE R = RECORD a: ARRAY 3 OF CHAR END; P = POINTER TO R; VAR i: INTEGER; p: P; PROCEDURE f(s: ARRAY OF CHAR): P; RETURN p END f; `+
		`BEGIN i := LEN(f("x").a); p := f(b); i := LEN(f("y").a) + LEN(f(b).a); p := f("x") END M.`)
	if got := fmt.Sprintf("%q %s", m.Strings, tellStats(m.Init)); got != `["used" "x"] assign(g-1.0:1 #3:1); assign(g-1.1:10 call-1.0:10($0:7)); assign(g-1.0:1 #6:1); assign(g-1.1:10 call-1.0:10($1:7))` {
		t.Error(got)
	}
	two := many(200, func(i int) string { return fmt.Sprintf("T(%q, c); ", fmt.Sprint("s", i)) })
	m = right(t, source(two+`T("s0", c); s := "s199"`))
	if len(m.Strings) != 200 || m.Strings[199] != "s199" {
		t.Error("200 strings")
	}
	wrong(t, source(two+`T(@"s200", c)`), api.ErrCheckMany)
	wrong(t, source(two+`T(@str, nothing)`), api.ErrCheckMany)
	wrong(t, source(two+`s := @"s200"`), api.ErrCheckMany)
	wrong(t, source(two+`s := L@.s`), api.ErrCheckMany)
	wrong(t, source(two+`@s := "longer"`), api.ErrCheckType)
	right(t, source(two+`c := "x"; EMIT("y"); T("s1", "z")`))
}
