package check

import (
	"reflect"
	"strings"
	"testing"

	"carrel/api"
	"carrel/tree"
	"carrel/types"
)

// theSyms are modules that tests import. L's types are 8 (an Array of 3 INTEGER), 9 (an Open of CHAR), 10 (an Open of INTEGER).
func theSyms() []api.Sym {
	return []api.Sym{{Name: "K"}, {
		Name: "L",
		Consts: []api.Const{
			{Name: "n", Type: api.Integer, N: -7, Export: true},
			{Name: "t", Type: api.Boolean, N: 1, Export: true},
			{Name: "c", Type: api.Char, N: 120, Export: true},
			{Name: "e", Type: api.Set, N: 0x80000001, Export: true},
			{Name: "s", Type: api.String, S: "text", Export: true},
			{Name: "one", Type: api.String, S: "y", Export: true},
		},
		Vars: []api.SymVar{{Name: "i", Form: api.Integer}, {Name: "a", Form: api.Integer, Len: 3}, {Name: "y", Form: api.Byte}},
		Procs: []api.SymProc{
			{Name: "P"},
			{Name: "F", Params: []api.SymVar{{Form: api.Integer}}, Result: api.Integer},
			{Name: "G", Params: []api.SymVar{{Form: api.Char, Ref: true}, {Form: api.Char, Open: true}}},
			{Name: "H", Params: []api.SymVar{{Form: api.Integer, Open: true, Ref: true}}, Result: api.Char},
		},
	}, {Name: "L", Consts: []api.Const{{Type: 99}}}}
}

// ahead is what most tests have ahead of their statements.
const ahead = `MODULE M; IMPORT L, SYSTEM;
CONST k = 5; one = "y"; str = "abc"; ks = {1, 3}; kb = TRUE; kc = 41X;
TYPE V = ARRAY 4 OF INTEGER;
	S = ARRAY 6 OF CHAR;
	P = POINTER TO R;
	R = RECORD x: INTEGER; c: CHAR; v: V; next: P; s: S END;
	Q = POINTER TO RR;
	RR = RECORD (R) z: SET END;
	O = POINTER TO OO;
	OO = RECORD y: BYTE END;
	W = ARRAY 2 OF V;
VAR i, j: INTEGER; b: BOOLEAN; c: CHAR; y: BYTE; e: SET;
	v: V; s: S; p: P; q: Q; o: O; r: R; rr: RR; w: W;
PROCEDURE N; END N;
PROCEDURE F(a: INTEGER): INTEGER; RETURN a END F;
PROCEDURE Z(VAR a: INTEGER; VAR t: ARRAY OF CHAR); END Z;
PROCEDURE T(t: ARRAY OF CHAR; u: CHAR); END T;
PROCEDURE G(): P; RETURN p END G;
PROCEDURE X(x: V; y: R; z: P; t: S; n: BYTE); END X;
PROCEDURE Y(VAR x: V; VAR y: R; VAR z: P; VAR o: ARRAY OF INTEGER); END Y;
PROCEDURE A(): BOOLEAN; RETURN b END A;
`

// What ahead's types, variables and procedures are.
const (
	aheadTypes = "array 3 of 1; open of 3; open of 1; " + // L's: 8, 9, 10
		"array 4 of 1; array 6 of 3; pointer to 14; " + // V 11, S 12, P 13
		"record(0) x:1@0 c:3@4 v:11@8 next:13@24 s:12@28; " + // R 14, of 36 bytes
		"pointer to 16; record(14) z:5@36; " + // Q 15, RR 16
		"pointer to 18; record(0) y:4@0; array 2 of 11; " + // O 17, OO 18, W 19
		"open of 3; open of 3; open of 1" // the parameters' of Z 20, T 21, Y 22
	aheadVars  = "i:1 j:1 b:2 c:3 y:4 e:5 v:11 s:12 p:13 q:15 o:17 r:14 rr:16 w:19"
	aheadProcs = "N()[]{}; F(a:1):1[]{}l0:1; Z(VAR a:1 VAR t:20)[]{}; T(t:21 u:3)[]{}; G():13[]{}g-1.8:13; " +
		"X(x:11 y:14 z:13 t:12 n:4)[]{}; Y(VAR x:11 VAR y:14 VAR z:13 VAR o:22)[]{}; A():2[]{}g-1.2:2"
	aheadConsts = `k:1=5 one:7=0"y" str:7=0"abc" ks:5=10 kb:2=1 kc:3=65`
)

// source is ahead with statements behind it.
func source(statements string) string { return ahead + "BEGIN " + statements + " END M." }

// both is what Source says of a source; Module says the same of its tree, whatever the places are.
func both(t *testing.T, s string, syms []api.Sym) (api.Mod, int, api.Errno) {
	t.Helper()
	m, at, e := Source(s, syms)
	n, where, f := tree.Module(s)
	if f != api.OK {
		if e != f || at != where || !reflect.DeepEqual(m, api.Mod{}) {
			t.Errorf("%s: %d, %v; tree says %d, %v", brief(s), at, e, where, f)
		}
		return m, at, e
	}
	m2, at2, e2 := Module(n, syms)
	if at2 != at || e2 != e || !reflect.DeepEqual(m, m2) {
		t.Errorf("%s: Source says %d, %v, Module %d, %v", brief(s), at, e, at2, e2)
	}
	return m, at, e
}

func brief(s string) string {
	s = strings.TrimPrefix(s, ahead)
	if len(s) > 160 {
		return s[:80] + ".." + s[len(s)-80:]
	}
	return s
}

// right is the module of a source that is to be taken; what follows holds of it.
func right(t *testing.T, s string) api.Mod {
	t.Helper()
	m, at, e := both(t, s, theSyms())
	if e != api.OK || at != 0 {
		t.Errorf("%s: %d, %v at %s", brief(s), at, e, rest(s, at))
		return api.Mod{Types: types.Basic()}
	}
	sound(t, brief(s), m)
	return m
}

func rest(s string, at int) string {
	if at < 0 || at > len(s) {
		return "none"
	}
	return s[at:min(len(s), at+20)]
}

// wrong asks for an error at the @ of a source, or at 0, if it has none.
func wrong(t *testing.T, s string, want api.Errno) {
	t.Helper()
	wrongBeside(t, s, theSyms(), want)
}

func wrongBeside(t *testing.T, s string, syms []api.Sym, want api.Errno) {
	t.Helper()
	before, after, found := strings.Cut(s, "@")
	place := len(before)
	if !found {
		t.Fatalf("%s: no place", brief(s))
	}
	m, at, e := both(t, before+after, syms)
	if e != want || at != place || !reflect.DeepEqual(m, api.Mod{}) {
		t.Errorf("%s: %v at %s; want %v", brief(s), e, rest(before+after, at), want)
	}
}

// gives asks for what statements behind ahead give.
func gives(t *testing.T, statements, want string) {
	t.Helper()
	if got := tellStats(right(t, source(statements)).Init); got != want {
		t.Errorf("%s: %s; want %s", statements, got, want)
	}
}

// many is n texts that a function tells, one behind the other.
func many(n int, text func(i int) string) string {
	s := ""
	for i := range n {
		s += text(i)
	}
	return s
}
