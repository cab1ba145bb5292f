package gen

import (
	"math/rand"
	"strconv"
	"strings"
	"testing"

	"carrel/api"
	"carrel/check"
)

// deepAhead has procedures with as many parameters as there may be, which change what is reckoned beside them.
const deepAhead = `MODULE M;
TYPE P = POINTER TO R; R = RECORD x: INTEGER; v: ARRAY 4 OF INTEGER; n: P END; Q = POINTER TO S; S = RECORD (R) s: SET END;
VAR i, j, g: INTEGER; y: BYTE; b: BOOLEAN; e: SET; v: ARRAY 4 OF INTEGER; w: ARRAY 4 OF ARRAY 4 OF INTEGER; s: ARRAY 9 OF CHAR; p: P; q: Q; r: R;
PROCEDURE Tell(x: INTEGER); BEGIN EMIT(CHR(x MOD 256)); EMIT(CHR(x DIV 256 MOD 256)); EMIT(CHR(x DIV 65536 MOD 256)); EMIT(CHR(x DIV 16777216 MOD 256)) END Tell;
PROCEDURE A(a, b, c, d, e, f, g, h: INTEGER): INTEGER; BEGIN i := i + a; v[a MOD 4] := h; Tell(a + 2 * b + 3 * c + 4 * d + 5 * e + 6 * f + 7 * g + 8 * h) RETURN a - b + c - d + e - f + g - h END A;
PROCEDURE B(x: INTEGER; VAR a, c: ARRAY OF INTEGER; VAR n: INTEGER; t: ARRAY OF CHAR; y: BYTE; o: P; z: BOOLEAN): INTEGER; VAR k: INTEGER; u: ARRAY 5 OF INTEGER; BEGIN a[x MOD LEN(a)] := y; INC(n, x); c[0] := n + LEN(t); u[y MOD 5] := x; IF z & (o # NIL) THEN INC(o.x, u[1]) END; FOR k := 0 TO LEN(t) - 1 DO x := x * 3 + ORD(t[k]) END; Tell(n) RETURN x + u[0] END B;
PROCEDURE C(x: INTEGER; e: SET): SET; BEGIN INC(g); j := x RETURN e / {x MOD 32} END C;
PROCEDURE D(o: P; x: INTEGER): P; BEGIN IF ODD(x) THEN NEW(o.n); o.n.x := x; o := o.n END RETURN o END D;
`

// deep makes expressions that nest so far that a part of each is reckoned while many others wait.
type deep struct{ r *rand.Rand }

func (d deep) one(of ...string) string { return of[d.r.Intn(len(of))] }

func (d deep) leaf() string {
	return d.one("i", "j", "g", "y", "v[1]", "v[i MOD 4]", "w[1][j MOD 4]", "p.x", "q.v[2]", "p.v[g MOD 4]", "r.x", strconv.Itoa(d.r.Intn(100000)), "70000", "(-5)", "a", "l", "u[l MOD 3]")
}

func (d deep) simple() string {
	return d.leaf() + d.one(" * ", " + ", " - ") + d.leaf()
}

// number is an INTEGER, so many brackets deep.
func (d deep) number(n int) string {
	if n <= 0 {
		return d.leaf()
	}
	switch d.r.Intn(12) {
	case 0, 1:
		return d.leaf() + d.one(" + ", " - ") + d.leaf() + " * (" + d.number(n-1) + ")"
	case 2:
		return "(" + d.number(n-1) + ")" + d.one(" * ", " + ", " - ") + d.leaf()
	case 3:
		return d.leaf() + d.one(" DIV ", " MOD ") + "((" + d.number(n-2) + ") MOD 9 + 1)"
	case 4, 5:
		args := make([]string, 8)
		for i := range args {
			args[i] = d.simple()
		}
		args[d.r.Intn(8)] = d.number(n - 1)
		return d.leaf() + " - " + d.leaf() + " * A(" + strings.Join(args, ", ") + ")"
	case 6:
		return d.leaf() + " + B(" + d.number(n-1) + ", " + d.one("v", "w[1]", "p.v", "u", "w[l MOD 4]") + ", " + d.one("v", "q.v") + ", " + d.one("i", "l", "v[j MOD 4]", "p.x") + ", " + d.one("s", `"text"`, `""`) + ", " + d.leaf() + ", " + d.pointer(n-3) + ", " + d.truth(n-3) + ")"
	case 7:
		return d.one("v", "w[2]", "p.v", "u2") + "[(" + d.number(n-2) + ") MOD 4]"
	case 8:
		return "w[(" + d.number(n/2-2) + ") MOD 4][(" + d.number(n-2) + ") MOD 4]"
	case 9:
		return "ORD(" + d.truth(n-1) + ") + " + d.leaf()
	case 10:
		return "ORD(" + d.set(n-1) + ")"
	}
	return d.pointer(n-1) + ".x + " + d.one("LSL", "ASR", "ROR") + "(" + d.leaf() + ", " + d.number(n-1) + ")"
}

func (d deep) truth(n int) string {
	if n <= 0 {
		return d.one("b", "(i < j)", "(p = q)", "(3 IN e)", "TRUE", "FALSE")
	}
	switch d.r.Intn(6) {
	case 0:
		return "(" + d.simple() + d.one(" < ", " <= ", " > ", " >= ", " = ", " # ") + d.number(n-1) + ")"
	case 1:
		return "(" + d.truth(n-1) + d.one(" & ", " OR ") + d.truth(n/2-1) + ")"
	case 2:
		return "(" + d.truth(n/2-1) + d.one(" & ", " OR ") + d.truth(n-1) + ")"
	case 3:
		return "(~" + d.truth(n-2) + ")"
	case 4:
		return "((" + d.number(n-3) + ") MOD 32 IN " + d.set(n/2-2) + ")"
	}
	return "(" + d.pointer(n-1) + d.one(" IS Q", " IS P", " = p") + ")"
}

func (d deep) set(n int) string {
	if n <= 0 {
		return d.one("e", "{1, 3..5}", "{j MOD 32}", "q.s")
	}
	switch d.r.Intn(4) {
	case 0:
		return "(" + d.one("e", "q.s") + d.one(" + ", " - ", " * ", " / ") + d.set(n-1) + ")"
	case 1:
		return "{i MOD 32, (" + d.number(n-2) + ") MOD 32, 7, j MOD 32..(" + d.number(n/2-2) + ") MOD 32}"
	case 2:
		return "C(" + d.number(n-1) + ", " + d.set(n/2-1) + ")"
	}
	return "(-" + d.set(n-2) + ")"
}

func (d deep) pointer(n int) string {
	if n <= 0 {
		return d.one("p", "q")
	}
	return "D(" + d.pointer(n/2-1) + ", " + d.number(n-1) + ")"
}

func (d deep) source() string {
	n := 3 + d.r.Intn(18)
	do := []string{
		"i := " + d.number(n), "v[(" + d.number(n/2) + ") MOD 4] := " + d.number(n), "INC(w[i MOD 4][j MOD 4], " + d.number(n) + ")", "b := " + d.truth(n), "e := " + d.set(n),
		"p.x := " + d.number(n), "INCL(e, (" + d.number(n-2) + ") MOD 32)", "p.v := w[(" + d.number(n-2) + ") MOD 4]", "y := " + d.number(n), "IF " + d.truth(n-1) + " THEN Tell(" + d.number(n-2) + ") END",
		"FOR g := (" + d.number(n-2) + ") MOD 4 TO (" + d.number(n-2) + ") MOD 6 DO Tell(" + d.number(n-2) + ") END", "WHILE (g < 9) & " + d.truth(n-2) + " DO INC(g); i := " + d.number(n-2) + " END",
	}
	d.r.Shuffle(len(do), func(i, k int) { do[i], do[k] = do[k], do[i] })
	body := strings.Join(do[:4], "; ")
	return deepAhead + "PROCEDURE Z(a: INTEGER; VAR u: ARRAY OF INTEGER); VAR l: INTEGER; u2: ARRAY 4 OF INTEGER; BEGIN l := a * 3; u2[1] := a; " + body + "; Tell(i); Tell(j); Tell(g); Tell(l); Tell(u[0]); Tell(ORD(e)); Tell(ORD(b)); Tell(y); Tell(p.x); Tell(v[0] + v[1] * v[2] - v[3]); Tell(w[1][2]) END Z;\n" +
		"BEGIN NEW(p); NEW(q); p.x := 3; q.v[2] := 9; i := 77; j := -3; y := 200; e := {3, 9}; v[2] := 5; w[1][1] := 8; s := \"abc\"; r.x := 12; q.s := {30}; Z(41, v) END M."
}

func TestDeepByChance(t *testing.T) { // P15.3: registers that are not enough, calls within calls
	r := rand.New(rand.NewSource(151))
	ends := map[api.End]int{}
	for made, tries := 0, 0; made < 200; tries++ {
		s := deep{r}.source()
		m, _, e := check.Source(s, nil)
		if e != api.OK {
			if tries > 8000 {
				t.Fatalf("too few right ones: %d, %v", made, e)
			}
			continue
		}
		made++
		ends[agrees(t, s, []api.Mod{m}, "", 60000).end]++
		if t.Failed() {
			t.Fatal(s)
		}
	}
	if ends[halt()] < 150 {
		t.Errorf("chance is one-sided: %v", ends)
	}
}
