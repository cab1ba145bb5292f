package sem

import (
	"strings"
	"testing"

	"carrel/api"
	"carrel/check"
	"carrel/sym"
)

// library is a module that others import.
const library = `MODULE L;
CONST k* = 7; kc* = "q"; ks* = {1, 3};
VAR hidden: INTEGER; n*: INTEGER; low: CHAR; a*: ARRAY 3 OF INTEGER; t*: ARRAY 4 OF CHAR; y*: BYTE;
PROCEDURE Own(x: INTEGER): INTEGER; RETURN x * 2 END Own;
PROCEDURE Set*(x: INTEGER); BEGIN n := x; hidden := Own(x) END Set;
PROCEDURE Twice*(): INTEGER; RETURN hidden END Twice;
PROCEDURE Sum*(a: ARRAY OF INTEGER): INTEGER; VAR i, s: INTEGER; BEGIN FOR i := 0 TO LEN(a) - 1 DO s := s + a[i] END RETURN s END Sum;
PROCEDURE Say*(s: ARRAY OF CHAR); VAR i: INTEGER; BEGIN WHILE (i < LEN(s)) & (s[i] # 0X) DO EMIT(s[i]); INC(i) END END Say;
PROCEDURE Up*(VAR x: INTEGER; VAR s: ARRAY OF CHAR); BEGIN INC(x); s := "up" END Up;
PROCEDURE Low*(x: INTEGER): BYTE; RETURN x END Low;
PROCEDURE Fill*(); BEGIN a[0] := 10; a[1] := 20; a[2] := 30; t := "tea"; y := 511 END Fill;
END L.`

// ahead is what tables' statements stand behind. R has 28 bytes, RR 36, RRR 36, Z none.
const ahead = `MODULE M; IMPORT L;
CONST k = 5; str = "abc";
TYPE V = ARRAY 4 OF INTEGER; S = ARRAY 6 OF CHAR; W = ARRAY 2 OF V; Y = ARRAY 3 OF BYTE;
	P = POINTER TO R; R = RECORD x: INTEGER; c: CHAR; v: V; next: P END;
	Q = POINTER TO RR; RR = RECORD (R) z: SET; y: BYTE; b: BOOLEAN END;
	T = POINTER TO RRR; RRR = RECORD (RR) END;
	O = POINTER TO OO; OO = RECORD (R) END;
	Z = RECORD END; ZP = POINTER TO Z;
VAR i, j: INTEGER; b, d: BOOLEAN; c: CHAR; y: BYTE; e, f: SET; v, u: V; s: S; w: W; yy: Y; z: Z; zp: ZP; zz: ARRAY 3 OF Z;
	p, pp: P; q: Q; t: T; o: O; r, r2: R; rr: RR;
PROCEDURE N; END N;
PROCEDURE F(a: INTEGER): INTEGER; RETURN a END F;
PROCEDURE E(x: CHAR): BOOLEAN; BEGIN EMIT(x) RETURN x = "t" END E;
PROCEDURE I(n: INTEGER; x: CHAR): INTEGER; BEGIN EMIT(x) RETURN n END I;
PROCEDURE G(x: P): P; RETURN x END G;
`

// checked is the module of a source, beside others.
func checked(t testing.TB, s string, others ...api.Mod) api.Mod {
	t.Helper()
	var syms []api.Sym
	for _, m := range others {
		x, e := sym.Of(m)
		if e != api.OK {
			t.Fatalf("%s: %v", m.Name, e)
		}
		syms = append(syms, x)
	}
	m, at, e := check.Source(s, syms)
	if e != api.OK {
		t.Fatalf("%v at %s of %s", e, s[at:min(len(s), at+30)], brief(s))
	}
	return m
}

func brief(s string) string {
	s = strings.TrimPrefix(s, ahead)
	if len(s) > 300 {
		return s[:150] + ".." + s[len(s)-150:]
	}
	return s
}

// behind are the library, and a module of statements behind ahead.
func behind(t testing.TB, statements string) []api.Mod {
	t.Helper()
	return behindProcs(t, "", statements)
}

// behindProcs has more procedures besides.
func behindProcs(t testing.TB, procs, statements string) []api.Mod {
	t.Helper()
	l := checked(t, library)
	return []api.Mod{l, checked(t, ahead+procs+" BEGIN "+statements+" END M.", l)}
}

// alone is a module of what stands behind MODULE M;.
func alone(t testing.TB, s string) []api.Mod {
	t.Helper()
	return []api.Mod{checked(t, "MODULE M; "+s+" END M.")}
}

// answer is what Run gives.
type answer struct {
	out  string
	end  api.End
	left int64
	e    api.Errno
}

func run3(mods []api.Mod, input string, fuel int64) answer {
	out, end, left, e := Run(mods, input, fuel)
	return answer{out, end, left, e}
}

const much = 100000

// asks holds a run with much fuel against what is asked for: what is put out, the end, how much was used.
func asks(t *testing.T, what string, mods []api.Mod, input, out string, end api.End, used int64) {
	t.Helper()
	got, want := run3(mods, input, much), answer{out: out, end: end, left: much - used}
	if got != want {
		t.Errorf("%s: %q, %v, used %d, %v; want %q, %v, used %d", brief(what), brief(got.out), got.end, much-got.left, got.e, out, end, used)
	}
	if used == 0 {
		return
	}
	if got := run3(mods, input, used); got != (answer{out: out, end: end}) {
		t.Errorf("%s: with just as much as it needs: %v", brief(what), got)
	}
	if got := run3(mods, input, used-1); got.end != (api.End{Kind: api.EndBudget}) || got.left != 0 || got.e != api.OK || !strings.HasPrefix(out, got.out) {
		t.Errorf("%s: with one less than it needs: %v", brief(what), got)
	}
}

func halt() api.End { return api.End{Kind: api.EndHalt} }

func wait() api.End { return api.End{Kind: api.EndWait} }

func trapped(n int) api.End { return api.End{Kind: api.EndTrap, Trap: n} }

// halts asks of statements that their ASSERTs hold, and what is put out.
func halts(t *testing.T, statements, out string) {
	t.Helper()
	haltsWith(t, "", statements, out)
}

func haltsWith(t *testing.T, procs, statements, out string) {
	t.Helper()
	got := run3(behindProcs(t, procs, statements), "", api.MaxFuel)
	if got.out != out || got.end != halt() || got.e != api.OK {
		t.Errorf("%s %s: %q, %v, %v; want %q", procs, statements, brief(got.out), got.end, got.e, out)
	}
}
