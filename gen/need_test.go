package gen

import (
	"fmt"
	"strings"
	"testing"

	"carrel/api"
	"carrel/mach"
)

// What code is asked for (section 'Words').

// callingStart fills all registers with remains, sets R14 to some stack's top, and calls Init of all objects and then all procedures of the last one, which have no parameters.
func callingStart(l []api.Object, top uint32) func(layout) []uint32 {
	return func(x layout) []uint32 {
		words := []uint32{0x6E000000 | top>>16, 0x4EE60000 | top&0xFFFF}
		for r := range uint32(14) {
			words = append(words, 0x6000BAD0|r<<24|r, 0x40061234|r<<24|r<<20)
		}
		call := func(to uint32) { words = append(words, branchWord(firstCode+4*uint32(len(words)), to)) }
		for n, o := range l {
			call(x.code[n][0] + 4*uint32(o.Init))
		}
		last := len(l) - 1
		for _, at := range l[last].Procs {
			call(x.code[last][0] + 4*uint32(at))
		}
		return append(words, haltWord)
	}
}

func TestCalledFromOutside(t *testing.T) { // P15.3: a branch with link calls Init and a procedure without parameters: R13 and R14 stay
	m := checked(t, `MODULE M; IMPORT SYSTEM; VAR v: ARRAY 9 OF INTEGER; n: INTEGER;
		PROCEDURE A; BEGIN EMIT("A") END A;
		PROCEDURE B*; VAR i: INTEGER; a: ARRAY 200 OF INTEGER; BEGIN FOR i := 0 TO 199 DO ASSERT(a[i] = 0); a[i] := i END; A; EMIT("B"); SYSTEM.GET(28, n); EMIT(CHR(48 + n)) END B;
		PROCEDURE C; VAR i: INTEGER; BEGIN FOR i := 1 TO 3 DO v[i] := v[i - 1] * (n + v[i]); B END; EMIT("C") END C;
		PROCEDURE D(): INTEGER; BEGIN EMIT("D"); SYSTEM.GET(28, n) RETURN n END D;
		BEGIN B; C; SYSTEM.GET(28, n); EMIT(CHR(48 + n)); EMIT("I") END M.`)
	l := objects(t, []api.Mod{checked(t, library), m})
	for _, top := range []uint32{api.StackTop, api.StackTop - 4096, api.StackEnd + 0x4000} {
		image, x := laid(t, l, callingStart(l, top))
		k := started(t, image, x, "")
		end := runs(k, 1000000)
		c := k.Cpu()
		depth, _ := k.Word(api.CallDepth)
		const ofB, ofC = "AB1", "AB2AB2AB2C"
		const want = ofB + ofC + "0I" + "A" + ofB + ofC + "D"
		if end.Kind != api.EndHalt || k.Out() != want || c.R[13] != 0xBADD1234 || c.R[14] != top || depth != 0 {
			t.Errorf("%v, %q, R13 %X, R14 %X of %X, %d calls under way; want %q", end, k.Out(), c.R[13], c.R[14], top, depth, want)
		}
	}
}

func TestCallDepth(t *testing.T) { // P15.3: the word at 28 is how many calls are under way
	m := checked(t, `MODULE M; IMPORT SYSTEM; VAR n: INTEGER;
		PROCEDURE Tell; VAR n: INTEGER; BEGIN SYSTEM.GET(28, n); EMIT(CHR(48 + n)) END Tell;
		PROCEDURE Depth(): INTEGER; VAR n: INTEGER; BEGIN SYSTEM.GET(28, n) RETURN n END Depth;
		PROCEDURE P(n: INTEGER); BEGIN EMIT(CHR(48 + n)); IF n < 5 THEN P(Depth() + 1) END; EMIT(CHR(48 + Depth())) END P;
		BEGIN SYSTEM.GET(28, n); EMIT(CHR(48 + n)); Tell; Tell; P(1); SYSTEM.GET(28, n); EMIT(CHR(48 + n)) END M.`)
	k, _ := machine(t, objects(t, []api.Mod{m}), "")
	if end := runs(k, 100000); end.Kind != api.EndHalt || k.Out() != "011"+"1345"+"5432"+"0" {
		t.Errorf("%v, %q", end, k.Out())
	}
}

func TestDescriptors(t *testing.T) { // P15.3: a record comes from where HeapNext says, its descriptor's address ahead of it, noughts within
	m := checked(t, `MODULE M; TYPE P = POINTER TO R; R = RECORD a, b: INTEGER END; Q = POINTER TO S; S = RECORD (R) c: ARRAY 5 OF CHAR END; Z = POINTER TO E; E = RECORD END;
		VAR p1: P; q1: Q; z1: Z; p2: P; z2: Z; BEGIN NEW(p1); NEW(q1); NEW(z1); NEW(p2); NEW(z2) END M.`)
	l := objects(t, []api.Mod{checked(t, library), m})
	k, x := machine(t, l, "")
	if next, _ := k.Word(api.HeapNext); next != x.heap {
		t.Fatalf("%X", next)
	}
	if end := runs(k, 100000); end.Kind != api.EndHalt {
		t.Fatal(end)
	}
	at := x.heap
	for i, of := range []int{0, 1, 2, 0, 2} {
		d := l[1].Descs[of]
		p, _ := k.Word(x.vars[1][i])
		ahead, _ := k.Word(at)
		if p != at+4 || ahead != x.descs[1][of] {
			t.Errorf("%d: at %X, with %X ahead; want %X, %X", i, p, ahead, at+4, x.descs[1][of])
		}
		for off := 0; off < d.Size; off += 4 {
			if w, _ := k.Word(p + uint32(off)); w != 0 {
				t.Errorf("%d: %X at %d", i, w, off)
			}
		}
		at += 4 + uint32(d.Size)
	}
	next, _ := k.Word(api.HeapNext)
	end, _ := k.Word(api.HeapEnd)
	if next != at || end != x.end {
		t.Errorf("%X, %X; want %X, %X", next, end, at, x.end)
	}
	if w, _ := k.Word(at); w != 0xDEADBEEF {
		t.Errorf("%X is written behind what NEW gave", w)
	}
}

func TestSmallerHeap(t *testing.T) { // P15.3: HeapEnd says where it ends
	mods := alone(t, "TYPE P = POINTER TO R; R = RECORD a, b, c: INTEGER END; VAR p: P; BEGIN WHILE TRUE DO NEW(p); EMIT(\"k\") END")
	for n := range uint32(40) {
		k, x := machine(t, objects(t, mods), "")
		k.Poke(api.HeapEnd, x.heap+4*n)
		if end := runs(k, 100000); end.Kind != api.EndTrap || end.Trap != api.TrapHeap || k.Out() != strings.Repeat("k", int(n/4)) {
			t.Errorf("%d words: %v, %q", n, end, k.Out())
		}
	}
}

func TestSystem(t *testing.T) { // the language: SYSTEM.ADR, GET, PUT, CALL
	const head = "MODULE M; IMPORT SYSTEM; TYPE P = POINTER TO R; R = RECORD x: INTEGER; c: CHAR END; VAR i, j: INTEGER; c, d: CHAR; y, y2: BYTE; v: ARRAY 4 OF INTEGER; s: ARRAY 6 OF CHAR; p: P; r: R; "
	for _, x := range []struct{ procs, s, out string }{
		{"", "i := 77; SYSTEM.GET(SYSTEM.ADR(i), j); ASSERT(j = 77)", ""},
		{"", "SYSTEM.PUT(SYSTEM.ADR(i), 123456789); ASSERT(i = 123456789); SYSTEM.PUT(SYSTEM.ADR(i), -1); ASSERT(i = -1); SYSTEM.PUT(SYSTEM.ADR(i), j + 5); ASSERT(i = 5)", ""},
		{"", "i := -1; SYSTEM.PUT(SYSTEM.ADR(i) + 1, \"A\"); ASSERT(i = LSL(255, 24) + LSL(255, 16) + LSL(65, 8) + 255)", ""},
		{"", "i := -1; c := \"A\"; SYSTEM.PUT(SYSTEM.ADR(i) + 2, c); y := 7; SYSTEM.PUT(SYSTEM.ADR(i), y); ASSERT(i = LSL(255, 24) + LSL(65, 16) + LSL(255, 8) + 7)", ""},
		{"", "i := LSL(4, 24) + LSL(3, 16) + LSL(2, 8) + 1; j := SYSTEM.ADR(i); SYSTEM.GET(j, y); ASSERT(y = 1); SYSTEM.GET(j + 3, y); ASSERT(y = 4); SYSTEM.GET(j + 1, c); ASSERT(c = 2X)", ""},
		{"", "y2 := 9; SYSTEM.GET(SYSTEM.ADR(i), y); ASSERT(y = 0); ASSERT(y2 = 9); d := \"d\"; SYSTEM.GET(SYSTEM.ADR(d), c); ASSERT(c = \"d\")", ""},
		{"", "v[2] := 5; SYSTEM.GET(SYSTEM.ADR(v) + 8, i); ASSERT(i = 5); ASSERT(SYSTEM.ADR(v[2]) = SYSTEM.ADR(v) + 8); i := 3; ASSERT(SYSTEM.ADR(v[i]) = SYSTEM.ADR(v) + 12)", ""},
		{"", "NEW(p); p.x := 4; SYSTEM.GET(SYSTEM.ADR(p^), i); ASSERT(i = 4); ASSERT(SYSTEM.ADR(p.c) = SYSTEM.ADR(p^) + 4); SYSTEM.GET(SYSTEM.ADR(p), i); ASSERT(i = SYSTEM.ADR(p^))", ""},
		{"", "i := 1; SYSTEM.GET(SYSTEM.ADR(v) + 4 * i, v[i + 1]); SYSTEM.PUT(SYSTEM.ADR(v) + 4, 8); SYSTEM.GET(SYSTEM.ADR(v) + 4 * i, v[i + 1]); ASSERT(v[2] = 8)", ""},
		{"PROCEDURE A(x: INTEGER; VAR y: INTEGER; a: ARRAY OF INTEGER); VAR z: INTEGER; BEGIN SYSTEM.PUT(SYSTEM.ADR(x), 5); ASSERT(x = 5); SYSTEM.PUT(SYSTEM.ADR(y), 6); SYSTEM.PUT(SYSTEM.ADR(z), 7); ASSERT(z = 7); ASSERT(SYSTEM.ADR(a) = SYSTEM.ADR(v)); SYSTEM.PUT(SYSTEM.ADR(a[LEN(a) - 1]), z) END A; ",
			"A(1, j, v); ASSERT(j = 6); ASSERT(v[3] = 7)", ""},
		{"", "SYSTEM.PUT(-60, 97); SYSTEM.GET(-56, i); ASSERT(i = 2); SYSTEM.GET(-40, i); ASSERT(i = 8)", "a"},
		{"", "SYSTEM.PUT(SYSTEM.ADR(v), 0C700000FH); i := 3; SYSTEM.CALL(SYSTEM.ADR(v)); EMIT(\"k\"); ASSERT(i = 3)", "k"},
		{"PROCEDURE A(n: INTEGER): INTEGER; BEGIN SYSTEM.PUT(SYSTEM.ADR(v) + 4, 0C700000FH); SYSTEM.CALL(SYSTEM.ADR(v[1])) RETURN n END A; ",
			"SYSTEM.PUT(SYSTEM.ADR(v), 040000063H); i := 2 + A(3) * A(4); ASSERT(i = 14); FOR i := 0 TO 3 DO SYSTEM.CALL(SYSTEM.ADR(v)); EMIT(CHR(48 + i)) END", "0123"},
	} {
		k, _ := machine(t, objects(t, []api.Mod{checked(t, head+x.procs+"BEGIN "+x.s+" END M.")}), "")
		if end := runs(k, 100000); end.Kind != api.EndHalt || k.Out() != x.out {
			t.Errorf("%s %s: %v, %q", x.procs, x.s, end, k.Out())
		}
	}
	for _, x := range []struct {
		s    string
		kind int
	}{{"SYSTEM.GET(2, i)", api.EndBad}, {"SYSTEM.PUT(100000H, i)", api.EndBad}, {"SYSTEM.GET(-60, i)", api.EndWait}, {"SYSTEM.CALL(100001H)", api.EndBad}} {
		k, _ := machine(t, objects(t, []api.Mod{checked(t, head+"BEGIN EMIT(\"a\"); "+x.s+"; EMIT(\"b\") END M.")}), "")
		if end := runs(k, 100000); end.Kind != x.kind || k.Out() != "a" {
			t.Errorf("%s: %v, %q", x.s, end, k.Out())
		}
	}
}

// lowest runs a machine to its end: how far down R14 has been.
func lowest(t *testing.T, k *mach.Machine) (uint32, api.End) {
	t.Helper()
	low := uint32(api.StackTop)
	for range 10000000 {
		end := k.Run(1)
		if low = min(low, max(k.Cpu().R[14], 1<<16)); end.Kind != api.EndBudget { // 0 at first
			return low, end
		}
	}
	t.Fatal("it does not end")
	return 0, api.End{}
}

func TestStackIsEnough(t *testing.T) { // P15.3: 64 calls of procedures with as many bytes as there may be, from within others' arguments
	var nested strings.Builder
	nested.WriteString("n - 1")
	for range 19 {
		was := nested.String()
		nested.Reset()
		nested.WriteString("A(" + was + ", v, v, v, v, v, v, w[n MOD 3])")
	}
	const a = "VAR i: INTEGER; PROCEDURE A(n: INTEGER; a, b, c: ARRAY OF INTEGER; d, e: ARRAY OF INTEGER; VAR f, g: ARRAY OF INTEGER): INTEGER; VAR v: ARRAY 244 OF INTEGER; w: ARRAY 3 OF ARRAY 4 OF INTEGER; BEGIN "
	for _, x := range []struct {
		what, s string
		end     int
	}{
		{"just calls", "VAR i: INTEGER; PROCEDURE A(n: INTEGER): INTEGER; VAR v: ARRAY 256 OF INTEGER; BEGIN v[255] := n; IF n > 1 THEN v[255] := v[255] + A(n - 1) END RETURN v[255] END A; BEGIN i := A(64); ASSERT(i = 2080)", api.EndHalt},
		{"many open arrays", a + "IF n > 1 THEN v[3] := A(n - 1, a, b, c, v, w[0], w[1], w[n MOD 3]) + n END RETURN v[3] END A; PROCEDURE B; VAR u: ARRAY 9 OF INTEGER; BEGIN i := A(63, u, u, u, u, u, u, u) END B; BEGIN B; ASSERT(i = 2015)", api.EndHalt},
		{"calls as arguments of calls", "VAR i: INTEGER; PROCEDURE A(n: INTEGER; a, b, c, d, e, f, g: ARRAY OF INTEGER): INTEGER; VAR v: ARRAY 240 OF INTEGER; w: ARRAY 3 OF ARRAY 4 OF INTEGER; BEGIN IF n > 0 THEN v[0] := i + n * (" + nested.String() + ") END RETURN v[0] END A; PROCEDURE B; VAR u: ARRAY 9 OF INTEGER; BEGIN i := A(100, u, u, u, u, u, u, u) END B; BEGIN B", api.EndTrap},
		{"calls as the last arguments of calls", "VAR i, j: INTEGER; PROCEDURE A(a, b, c, d, e, f, g, n: INTEGER): INTEGER; VAR v: ARRAY 256 OF INTEGER; BEGIN IF n > 0 THEN v[0] := i + n * (" + strings.Repeat("A(i + 1, j * 2, i, j, i, j, i - j, j - i * ", 18) + "(n - 1)" + strings.Repeat(")", 18) + ") END RETURN v[0] END A; BEGIN j := 1; i := A(1, 2, 3, 4, 5, 6, 7, 100)", api.EndTrap},
	} {
		k, _ := machine(t, objects(t, alone(t, x.s)), "")
		low, end := lowest(t, k)
		if end.Kind != x.end || end.Kind == api.EndTrap && end.Trap != api.TrapStack || low < api.StackEnd {
			t.Errorf("%s: %v, down to %X", x.what, end, low)
		}
		if low > api.StackTop-64*1024 {
			t.Errorf("%s: only down to %X", x.what, low)
		}
	}
}

func TestRegistersOfCallers(t *testing.T) { // P15.3: what waits while something is called stays
	var terms []string
	for i := range 30 {
		terms = append(terms, fmt.Sprintf("(i + %d * A(%d))", i, i))
	}
	sum := "1"
	for i := range 14 {
		sum = fmt.Sprintf("%d + A(%d) * (%s - i)", i, i, sum)
	}
	const a = "PROCEDURE A(n: INTEGER): INTEGER; VAR x: ARRAY 40 OF INTEGER; BEGIN IF n > 2 THEN x[n] := A(n - 3) * 3 + A(n - 3) * (x[0] - (x[1] + (n - A(2)))) END RETURN x[n] + n + 1 END A;"
	agrees(t, "terms", behindProcs(t, a, "j := "+strings.Join(terms, " + ")+"; L.Set(j); EMIT(CHR(j MOD 256)); EMIT(CHR(j DIV 256 MOD 256))"), "", api.MaxFuel)
	agrees(t, sum, behindProcs(t, a, "i := 3; j := "+sum+"; EMIT(CHR(j MOD 256)); EMIT(CHR(j DIV 256 MOD 256)); EMIT(CHR(j DIV 65536 MOD 256)); EMIT(CHR(j DIV 16777216 MOD 256))"), "", api.MaxFuel)
}
