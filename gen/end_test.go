package gen

import (
	"fmt"
	"strings"
	"testing"

	"carrel/api"
)

func TestTraps(t *testing.T) { // P15.3: each trap, behind what is done ahead of it, and ahead of what is not
	const a = "PROCEDURE A(VAR a: ARRAY OF CHAR); BEGIN a := \"abcdef\" END A; PROCEDURE B(a: ARRAY OF CHAR; i: INTEGER): CHAR; RETURN a[i] END B; PROCEDURE C(VAR a: ARRAY OF V; i, j: INTEGER); BEGIN a[i][j] := I(0, \"z\") END C;"
	for _, x := range []struct {
		s    string
		out  string
		trap int
	}{
		{"i := 4; v[i] := I(1, \"x\")", "", api.TrapIndex},
		{"i := -1; v[i] := I(1, \"x\")", "", api.TrapIndex},
		{"i := -2147483647 - 1; v[i] := I(1, \"x\")", "", api.TrapIndex},
		{"i := 1073741824; v[i] := I(1, \"x\")", "", api.TrapIndex},
		{"v[I(4, \"x\")] := I(1, \"y\")", "x", api.TrapIndex},
		{"i := v[y + 4]", "", api.TrapIndex},
		{"w[i + 2][I(0, \"x\")] := 1", "", api.TrapIndex},
		{"w[i + 1][I(4, \"x\")] := 1", "x", api.TrapIndex},
		{"NEW(p); p.v[I(4, \"x\")] := I(1, \"y\")", "x", api.TrapIndex},
		{"c := B(\"abc\", 3); EMIT(CHR(ORD(c) + 48)); c := B(\"abc\", 4)", "0", api.TrapIndex},
		{"c := B(s, 5); EMIT(\"k\"); c := B(s, -1)", "k", api.TrapIndex},
		{"C(w, 1, 3); C(w, 1, 4)", "z", api.TrapIndex},
		{"C(w, 0, 0); C(w, 2, 0)", "z", api.TrapIndex},
		{"p.x := I(1, \"x\")", "", api.TrapNil},
		{"i := p.x", "", api.TrapNil},
		{"p.v[I(9, \"x\")] := 1", "", api.TrapNil},
		{"p^ := r", "", api.TrapNil},
		{"r := p^", "", api.TrapNil},
		{"NEW(p); p.next.next := q", "", api.TrapNil},
		{"i := G(p).x", "", api.TrapNil},
		{"p(Q).y := 1", "", api.TrapNil},
		{"q := p(Q)", "", api.TrapNil},
		{"p := p(P)", "", api.TrapNil},
		{"NEW(p); p(Q).y := 1", "", api.TrapGuard},
		{"NEW(p); q := p(Q)", "", api.TrapGuard},
		{"NEW(q); p := q; t := p(T)", "", api.TrapGuard},
		{"NEW(q); p := q; o := p(O)", "", api.TrapGuard},
		{"NEW(o); p := o; q := G(p)(Q)", "", api.TrapGuard},
		{"A(s)", "", api.TrapCopy},
		{"i := 32; e := {i, I(1, \"x\")}", "", api.TrapRange},
		{"i := 32; e := {i..I(1, \"x\")}", "", api.TrapRange},
		{"i := -1; e := {F(1)..i}", "", api.TrapRange},
		{"i := 32; e := {1..i}", "", api.TrapRange},
		{"i := -1; e := {i..5}", "", api.TrapRange},
		{"e := {1, i..I(32, \"x\"), I(1, \"y\")}", "x", api.TrapRange},
		{"i := 32; b := i IN f", "", api.TrapRange},
		{"i := -1; b := i IN f", "", api.TrapRange},
		{"b := 32 IN f", "", api.TrapRange},
		{"b := -1 IN f", "", api.TrapRange},
		{"b := I(32, \"x\") IN {I(1, \"y\")}", "xy", api.TrapRange},
		{"b := 99 IN {I(1, \"y\")}", "y", api.TrapRange},
		{"i := 32; INCL(e, i)", "", api.TrapRange},
		{"i := -1; EXCL(e, i)", "", api.TrapRange},
		{"i := 256; c := CHR(i)", "", api.TrapRange},
		{"i := -1; EMIT(CHR(i))", "", api.TrapRange},
		{"i := j DIV j", "", api.TrapDivide},
		{"j := -1; i := 5 MOD j", "", api.TrapDivide},
		{"i := j DIV 0", "", api.TrapDivide},
		{"i := j MOD (-5)", "", api.TrapDivide},
		{"i := j DIV (-70000)", "", api.TrapDivide},
		{"i := I(1, \"x\") DIV I(0, \"y\")", "xy", api.TrapDivide},
		{"ASSERT(b)", "", api.TrapAssert},
		{"ASSERT(FALSE)", "", api.TrapAssert},
		{"ASSERT(TRUE); ASSERT(E(\"t\") & E(\"f\"))", "tf", api.TrapAssert},
		{"FOR i := 1 DIV j TO I(1, \"x\") DO END", "", api.TrapDivide},
		{"FOR i := I(1, \"x\") TO 1 DIV j DO END", "x", api.TrapDivide},
		{"TAKE(s[i + 6])", "", api.TrapIndex},
		{"INC(v[i + 4], I(1, \"x\"))", "", api.TrapIndex},
		{"INC(p.x, I(1, \"x\"))", "", api.TrapNil},
		{"INCL(q.z, I(1, \"x\"))", "", api.TrapNil},
		{"NEW(p.next)", "", api.TrapNil},
	} {
		does(t, x.s, behindProcs(t, a, x.s), "", x.out, trapped(x.trap))
	}
	does(t, "TAKE of what is not there", behind(t, "EMIT(\"a\"); TAKE(s[i])"), "", "a", wait())
}

func TestHeap(t *testing.T) { // P15.3: trap 8
	for _, x := range []struct {
		s   string
		end api.End
	}{
		{"FOR i := 1 TO 2048 DO NEW(p) END; EMIT(\"k\")", halt()},
		{"FOR i := 1 TO 2048 DO NEW(p) END; EMIT(\"k\"); NEW(zp)", trapped(api.TrapHeap)},
		{"FOR i := 1 TO 2048 DO NEW(p) END; EMIT(\"k\"); NEW(p)", trapped(api.TrapHeap)},
		{"FOR i := 1 TO 2047 DO NEW(p) END; EMIT(\"k\"); NEW(q)", trapped(api.TrapHeap)},
		{"FOR i := 1 TO 2047 DO NEW(p) END; EMIT(\"k\"); NEW(p); NEW(zp)", trapped(api.TrapHeap)},
		{"FOR i := 1 TO 16384 DO NEW(zp) END; EMIT(\"k\"); NEW(zp)", trapped(api.TrapHeap)},
	} {
		does(t, x.s, behind(t, x.s), "", "k", x.end)
	}
	const great = "TYPE P = POINTER TO R; R = RECORD a: ARRAY 4095 OF INTEGER END; VAR p, q: P; i: INTEGER; BEGIN "
	does(t, "four great ones", alone(t, great+"NEW(p); q := p; NEW(p); NEW(p); NEW(p); ASSERT(p # q); EMIT(\"k\"); NEW(p)"), "", "k", trapped(api.TrapHeap))
	does(t, "a pointer that does not change", alone(t, great+"WHILE TRUE DO NEW(p); p.a[4094] := 7; EMIT(CHR(48 + p.a[0])) END"), "", "0000", trapped(api.TrapHeap))
}

func TestCallsWithinOneAnother(t *testing.T) { // P15.3: trap 9, behind its arguments
	const a = "PROCEDURE A(n: INTEGER): INTEGER; VAR v: ARRAY 3 OF INTEGER; BEGIN IF n > 1 THEN n := A(n - 1) END RETURN n END A; BEGIN "
	does(t, "64", alone(t, a+"ASSERT(A(64) = 1); EMIT(\"k\")"), "", "k", halt())
	does(t, "65", alone(t, a+"ASSERT(A(65) = 1); EMIT(\"k\")"), "", "", trapped(api.TrapStack))
	does(t, "64 twice", alone(t, a+"ASSERT(A(64) + A(64) = 2); EMIT(\"k\"); ASSERT(A(65) = 1)"), "", "k", trapped(api.TrapStack))
	const b = "PROCEDURE B(n: INTEGER); BEGIN B(n + 1 + 0 * (9 DIV (63 - n))) END B; BEGIN B(0)"
	does(t, "arguments", alone(t, b), "", "", trapped(api.TrapDivide))
	const c = "PROCEDURE C(n: INTEGER): INTEGER; RETURN n END C; PROCEDURE B(n: INTEGER); BEGIN EMIT(\".\"); IF n > 0 THEN B(C(n) - 1) END END B; BEGIN B(62); EMIT(\"k\"); B(63)"
	does(t, "an argument's call", alone(t, c), "", strings.Repeat(".", 63)+"k"+strings.Repeat(".", 64), halt())
	const d = "VAR i: INTEGER; PROCEDURE D(n: INTEGER): INTEGER; RETURN D(n - 1) END D; BEGIN i := D(100)"
	does(t, "within a RETURN", alone(t, d), "", "", trapped(api.TrapStack))
	e := "PROCEDURE A(n: INTEGER): INTEGER; BEGIN IF n > 1 THEN n := A(n - 1) END RETURN n END A;"
	does(t, "from a loop", alone(t, "VAR i: INTEGER; "+e+" BEGIN FOR i := 1 TO 200 DO ASSERT(A(i MOD 64 + 1) = 1) END; EMIT(\"k\")"), "", "k", halt())
	deep := checked(t, `MODULE D; PROCEDURE A*(n: INTEGER): INTEGER; BEGIN IF n > 1 THEN n := A(n - 1) END RETURN n END A; END D.`)
	for n, end := range map[int]api.End{62: halt(), 63: halt(), 64: trapped(api.TrapStack)} {
		m := checked(t, fmt.Sprintf("MODULE M; IMPORT D; PROCEDURE B(): INTEGER; RETURN D.A(%d) END B; BEGIN ASSERT(B() = 1) END M.", n), deep)
		does(t, fmt.Sprint(n), []api.Mod{deep, m}, "", "", end)
	}
}

func TestOutputIsLost(t *testing.T) { // P15.3: behind 65536 bytes
	mods := alone(t, `VAR i: INTEGER; BEGIN FOR i := 1 TO 65535 DO EMIT("x") END; EMIT("y"); EMIT("z"); EMIT("z"); i := 1 DIV (i - i)`)
	if got := agrees(t, "much output", mods, "", api.MaxFuel); got.out != strings.Repeat("x", 65535)+"y" || got.end != trapped(api.TrapDivide) {
		t.Errorf("%d bytes, %v", len(got.out), got.end)
	}
}

func TestInput(t *testing.T) { // P15.3: TAKE, EndWait
	const echo = "VAR c: CHAR; i: INTEGER; BEGIN "
	bytes := make([]byte, 256)
	for i := range bytes {
		bytes[i] = byte(i)
	}
	does(t, "all bytes", alone(t, echo+"FOR i := 0 TO 255 DO TAKE(c); EMIT(c); ASSERT(ORD(c) = i) END"), string(bytes), string(bytes), halt())
	full := strings.Repeat("q", api.MaxIn)
	got := agrees(t, "as much as may wait", alone(t, echo+"WHILE TRUE DO TAKE(c); INC(i); IF i MOD 8192 = 0 THEN EMIT(c) END END"), full, api.MaxFuel)
	if got.out != "qqqqqqqq" || got.end != wait() {
		t.Errorf("%q, %v", got.out, got.end)
	}
	does(t, "nothing", alone(t, echo+`c := "z"; TAKE(c)`), "", "", wait())
	does(t, "some", alone(t, echo+`REPEAT TAKE(c); EMIT(c) UNTIL FALSE`), "ab", "ab", wait())
}

func TestWaitingGoesOn(t *testing.T) { // P15.3: what waits goes on with more input, as if that had been there
	l := objects(t, alone(t, "VAR s: ARRAY 9 OF CHAR; i: INTEGER; BEGIN REPEAT TAKE(s[i]); EMIT(s[i]); INC(i) UNTIL s[i - 1] = \".\"; EMIT(CHR(48 + i))"))
	m, _ := machine(t, l, "a")
	for _, x := range []struct{ input, out string }{{"", "a"}, {"bc", "abc"}, {"", "abc"}, {"d.e", "abcd.5"}} {
		if e := m.Feed(x.input); e != api.OK {
			t.Fatal(e)
		}
		kind := api.EndWait
		if strings.HasSuffix(x.out, "5") {
			kind = api.EndHalt
		}
		if end := runs(m, 10000); end.Kind != kind || m.Out() != x.out {
			t.Errorf("%v, %q; want %q", end, m.Out(), x.out)
		}
	}
}

func TestHalts(t *testing.T) { // P15.3: HALT, wherever it stands
	does(t, "HALT", behind(t, "EMIT(\"a\"); HALT; EMIT(\"b\")"), "", "a", halt())
	does(t, "HALT in a loop", behind(t, "FOR i := 0 TO 9 DO EMIT(\"a\"); IF i = 3 THEN HALT END END"), "", "aaaa", halt())
	does(t, "HALT in calls", behindProcs(t, "PROCEDURE A(n: INTEGER): INTEGER; BEGIN EMIT(\"a\"); IF n = 0 THEN HALT END RETURN n + A(n - 1) * 2 END A;", "i := 1 + A(3); EMIT(\"b\")"), "", "aaaa", halt())
	b := checked(t, `MODULE B; BEGIN EMIT("b"); HALT END B.`)
	c := checked(t, `MODULE C; BEGIN EMIT("c") END C.`)
	does(t, "the next module", []api.Mod{b, c}, "", "b", halt())
	does(t, "the one ahead", []api.Mod{c, b}, "", "cb", halt())
}

func TestBudgets(t *testing.T) { // P15.3: behind an EndBudget the one output begins the other
	mods := alone(t, `VAR i: INTEGER; BEGIN WHILE TRUE DO EMIT(CHR(48 + i MOD 10)); INC(i) END`)
	for fuel := range int64(60) {
		if got := agrees(t, "digits", mods, "", fuel); got.end != budget() || got.used != fuel {
			t.Errorf("%d: %v", fuel, got)
		}
	}
	m, _ := machine(t, objects(t, mods), "")
	long := strings.Repeat("0123456789", 100)
	for range 500 {
		runs(m, 7)
		if out := m.Out(); !strings.HasPrefix(long, out) {
			t.Fatal(out)
		}
	}
	if len(m.Out()) < 50 {
		t.Error("it does not go on")
	}
}

func TestModulesOfARow(t *testing.T) { // P15.3: one after the other, in order; what the last one does no more
	a := checked(t, `MODULE A; VAR n*: INTEGER; PROCEDURE Up*; BEGIN INC(n) END Up; BEGIN EMIT("a"); n := 5 END A.`)
	c := checked(t, `MODULE C; IMPORT A; BEGIN A.Up; A.Up; EMIT(CHR(48 + A.n)) END C.`, a)
	d := checked(t, `MODULE D; VAR i: INTEGER; BEGIN EMIT("d"); i := 1 DIV i END D.`)
	e := checked(t, `MODULE E; VAR c: CHAR; BEGIN TAKE(c); EMIT(c) END E.`)
	for _, x := range []struct {
		mods       []api.Mod
		input, out string
		end        api.End
	}{
		{[]api.Mod{a, c}, "", "a7", halt()},
		{[]api.Mod{d, a}, "", "d", trapped(api.TrapDivide)},
		{[]api.Mod{a, d}, "", "ad", trapped(api.TrapDivide)},
		{[]api.Mod{e, a, c}, "x", "xa7", halt()},
		{[]api.Mod{a, c, e}, "", "a7", wait()},
	} {
		does(t, "a row", x.mods, x.input, x.out, x.end)
	}
	var many []api.Mod
	var ahead []string
	for i := range api.MaxModules {
		name := fmt.Sprintf("M%d", i)
		imports := ""
		if i > 0 {
			imports = "IMPORT " + strings.Join(ahead, ", ") + "; "
		}
		body := fmt.Sprintf("v := %d", i+1)
		for _, x := range ahead {
			body += "; INC(v, " + x + ".v)"
		}
		many = append(many, checked(t, "MODULE "+name+"; "+imports+"VAR v*: INTEGER; BEGIN "+body+"; EMIT(CHR(v MOD 256)) END "+name+".", many...))
		ahead = append(ahead, name)
	}
	if got := agrees(t, "as many as may be", many, "", much); got.end != halt() || len(got.out) != api.MaxModules {
		t.Errorf("%v", got)
	}
}

func TestImportedThings(t *testing.T) { // P15.3: variables and procedures of other modules, some of whose things are not shown
	halts(t, "L.Set(21); ASSERT(L.n = 21); ASSERT(L.Twice() = 42); L.Set(1); ASSERT(L.n + L.Twice() = 3)", "")
	halts(t, "L.Fill; ASSERT(L.a[0] = 10); ASSERT(L.a[2] = 30); ASSERT(L.Sum(L.a) = 60); ASSERT(L.y = 255); L.Say(L.t); EMIT(L.t[1]); ASSERT(LEN(L.a) = 3)", "teae")
	halts(t, "v[1] := 3; v[3] := 4; ASSERT(L.Sum(v) = 7); ASSERT(L.Sum(w[1]) = 0); NEW(p); p.v[2] := 8; ASSERT(L.Sum(p.v) = 8)", "")
	halts(t, "i := 4; L.Up(i, s); ASSERT(i = 5); L.Say(s); NEW(p); L.Up(p.x, s); ASSERT(p.x = 1); L.Up(v[2], s); ASSERT(v[2] = 1)", "up")
	halts(t, "ASSERT(L.Low(300) = 44); ASSERT(L.k = 7); EMIT(L.kc); ASSERT(L.ks = {1, 3}); L.Say(\"str\"); L.Say(\"\"); L.Say(L.str)", "qstrlib")
	does(t, "an index", behind(t, "i := 3; L.Fill; i := L.a[i]"), "", "", trapped(api.TrapIndex))
}
