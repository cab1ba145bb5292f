package link

import (
	"strings"
	"testing"

	"carrel/api"
	"carrel/disk"
	"carrel/mach"
	"carrel/sem"
)

// machine is one that begins with an image.
func machine(t testing.TB, i api.Image, input string) *mach.Machine {
	t.Helper()
	d, e := disk.New(api.MinSectors)
	if e != api.OK {
		t.Fatal(e)
	}
	m, e := mach.New(i, d)
	if e != api.OK {
		t.Fatal(e)
	}
	if e := m.Feed(input); e != api.OK {
		t.Fatal(e)
	}
	return m
}

func ends(t testing.TB, m *mach.Machine, out string, kind, trap int) {
	t.Helper()
	if end := m.Run(api.MaxBudget); end.Kind != kind || end.Trap != trap || m.Out() != out {
		t.Errorf("%q, %v; want %q, kind %d, trap %d", m.Out(), end, out, kind, trap)
	}
}

const (
	numbers = `MODULE Numbers; CONST ten* = 10; VAR count*: INTEGER; last*: ARRAY 4 OF CHAR; hidden: INTEGER;
PROCEDURE Own(x: INTEGER): INTEGER; RETURN x MOD ten END Own;
PROCEDURE Say*(x: INTEGER); BEGIN INC(count); IF x >= ten THEN Say(x DIV ten) END; EMIT(CHR(Own(x) + 48)) END Say;
PROCEDURE Text*(s: ARRAY OF CHAR); VAR i: INTEGER; BEGIN WHILE (i < LEN(s)) & (s[i] # 0X) DO EMIT(s[i]); INC(i) END END Text;
BEGIN last := "n"; hidden := 3; EMIT("N") END Numbers.`
	lists = `MODULE Lists; IMPORT Numbers; TYPE List = POINTER TO Item; Item = RECORD n: INTEGER; next: List END; Long = POINTER TO LongItem; LongItem = RECORD (Item) s: ARRAY 7 OF CHAR END;
VAR first: List; length*: INTEGER;
PROCEDURE Add*(n: INTEGER); VAR x: List; l: Long; BEGIN IF ODD(n) THEN NEW(x) ELSE NEW(l); l.s := "even"; x := l END; x.n := n; x.next := first; first := x; INC(length) END Add;
PROCEDURE Say*; VAR x: List; BEGIN x := first; WHILE x # NIL DO Numbers.Say(x.n); IF x IS Long THEN Numbers.Text(x(Long).s) END; x := x.next END; Numbers.Text(" words") END Say;
BEGIN Numbers.Text("Lists"); ASSERT(first = NIL) END Lists.`
	mainly = `MODULE Mainly; IMPORT Lists, Numbers; VAR c: CHAR; a: ARRAY 5 OF INTEGER; i: INTEGER;
BEGIN TAKE(c); FOR i := 0 TO 4 DO a[i] := i * i; Lists.Add(a[i]) END; Lists.Say; EMIT(c); EMIT(Numbers.last[0]); Numbers.Say(Numbers.count); Numbers.Say(Lists.length); ASSERT(c # "!"); WHILE c = "?" DO INC(i); a[i] := 1 END END Mainly.`
)

func TestRuns(t *testing.T) { // P16.2, and DOC.md's T1: what modules mean, whatever order the list has
	mods := modules(t, numbers, lists, mainly)
	objects := compiled(t, mods)
	for _, input := range []string{"x", "", "!", "?"} {
		out, end, _, e := sem.Run(mods, input, api.MaxFuel)
		if e != api.OK || !strings.HasPrefix(out, "NLists") {
			t.Fatalf("sem: %q, %v", out, e)
		}
		permuted(objects, func(l []api.Object) {
			ends(t, machine(t, boots(t, l...), input), out, end.Kind, end.Trap)
		})
	}
}

func TestExamplesOfTheWhole(t *testing.T) { // DOC.md: the first four
	for _, x := range []struct {
		source, input, out string
		kind, trap         int
	}{
		{`MODULE M; BEGIN EMIT("a") END M.`, "", "a", api.EndHalt, 0},
		{`MODULE M; VAR a: ARRAY 3 OF INTEGER; i: INTEGER; BEGIN i := 3; EMIT("x"); a[i] := 1; EMIT("y") END M.`, "", "x", api.EndTrap, 1},
		{`MODULE M; VAR c: CHAR; BEGIN REPEAT TAKE(c); EMIT(c) UNTIL c = "." END M.`, "ab", "ab", api.EndWait, 0},
		{`MODULE M; VAR c: CHAR; BEGIN REPEAT TAKE(c); EMIT(c) UNTIL c = "." END M.`, "a.b", "a.", api.EndHalt, 0},
		{`MODULE M; PROCEDURE P(x: INTEGER); BEGIN P(x + 1) END P; BEGIN P(0) END M.`, "", "", api.EndTrap, 9},
	} {
		ends(t, machine(t, boots(t, compiled(t, modules(t, x.source))...), x.input), x.out, x.kind, x.trap)
	}
}

func TestTrapsGoOn(t *testing.T) { // P16.2: behind a trap the stack and the calls begin anew, and no halt is a trap
	const source = `MODULE M; IMPORT SYSTEM, Numbers; VAR i, n: INTEGER; a: ARRAY 3 OF INTEGER;
PROCEDURE Deep(x: INTEGER): INTEGER; VAR n: INTEGER; BEGIN IF x > 0 THEN n := Deep(x - 1) + 1 END RETURN n END Deep;
PROCEDURE Trap*; BEGIN SYSTEM.GET(20, n); Numbers.Say(n); INC(i); IF i < 5 THEN a[Deep(62)] := 1 END; Numbers.Text("."); HALT END Trap;
BEGIN i := Deep(40) - 40; EMIT("<"); IF Deep(70) > 0 THEN EMIT("!") END END M.`
	objects := compiled(t, modules(t, numbers, source))
	m := machine(t, boots(t, objects[1], objects[0]), "")
	ends(t, m, "N<91111.", api.EndHalt, 0)
	if top := m.Cpu().R[14]; top > api.StackTop || top < api.StackTop-1024 {
		t.Errorf("R14 is %X", top)
	}
	ends(t, machine(t, boots(t, compiled(t, modules(t, `MODULE M; PROCEDURE Trap; BEGIN EMIT("t"); HALT END Trap; BEGIN EMIT("a"); ASSERT(FALSE) END M.`))...), ""), "a", api.EndTrap, 7)
}

// caller is a module that calls a program from within a procedure, and has records of its own.
const caller = `MODULE Caller; IMPORT SYSTEM, Numbers; TYPE P = POINTER TO R; R = RECORD x: INTEGER; a: ARRAY 2000 OF INTEGER END; VAR p, q: P; n: INTEGER;
PROCEDURE Run(n: INTEGER); BEGIN IF n > 0 THEN Run(n - 1) ELSE EMIT("<"); SYSTEM.CALL(80000H); EMIT(">"); SYSTEM.GET(28, n); Numbers.Say(n) END END Run;
BEGIN NEW(p); p.x := 7; p.a[1999] := 8; Run(59); Run(0); NEW(q); ASSERT(q # p); q.x := 9; Numbers.Say(p.x); Numbers.Say(p.a[1999]); Numbers.Say(q.x); SYSTEM.GET(28, n); Numbers.Say(n) END Caller.`

// loaded is a machine with a program at ProgBase, and a caller.
func loaded(t testing.TB, program []api.Object, input string) *mach.Machine {
	t.Helper()
	i := boots(t, compiled(t, modules(t, numbers, caller))...)
	words := progs(t, program...)
	i.Words = append(i.Words, make([]uint32, api.ProgBase/4-len(i.Words))...)
	i.Words = append(i.Words, words[3:]...)
	return machine(t, i, input)
}

func TestProgRuns(t *testing.T) { // P16.3: it has its own heap and calls, and goes back as if nothing had been
	const source = `MODULE Small; TYPE P = POINTER TO R; R = RECORD a: ARRAY 4000 OF INTEGER END; VAR p: P; i: INTEGER;
PROCEDURE Deep(x: INTEGER); BEGIN IF x > 0 THEN Deep(x - 1) END END Deep;
BEGIN Deep(63); IF i = 0 THEN FOR i := 1 TO 4 DO NEW(p); p.a[3999] := i END; EMIT("s") ELSE EMIT("S") END END Small.`
	m := loaded(t, compiled(t, modules(t, source)), "")
	heap, _ := m.Word(api.HeapNext)
	end, _ := m.Word(api.HeapEnd)
	ends(t, m, "N<s>60<S>17890", api.EndHalt, 0)
	next, _ := m.Word(api.HeapNext)
	behind, _ := m.Word(api.HeapEnd)
	depth, _ := m.Word(api.CallDepth)
	if next != heap+2*(8004+4) || behind != end || depth != 0 || m.Cpu().R[14] != api.StackTop {
		t.Errorf("heap %X, %X, then %X, %X, calls %d, R14 %X", heap, end, next, behind, depth, m.Cpu().R[14])
	}
	mods := modules(t, numbers, lists, mainly)
	out, _, _, _ := sem.Run(mods, "x", api.MaxFuel)
	m = loaded(t, compiled(t, mods), "x")
	if m.Run(api.MaxBudget); !strings.HasPrefix(m.Out(), "N<"+out+">") {
		t.Errorf("%q, but sem %q", m.Out(), out)
	}
}

func TestProgHeap(t *testing.T) { // P16.3: MaxHeap bytes, from behind all that is loaded on
	const source = `MODULE Full; TYPE P = POINTER TO R; R = RECORD a: ARRAY 4095 OF INTEGER END; VAR p: P; i: INTEGER;
BEGIN FOR i := 1 TO 5 DO NEW(p); p.a[0] := i; EMIT("k") END END Full.`
	ends(t, loaded(t, compiled(t, modules(t, source)), ""), "N<kkkk", api.EndTrap, 8)
}
