package sem

import (
	"fmt"
	"reflect"
	"strings"
	"testing"

	"carrel/api"
	"carrel/check"
	"carrel/sym"
)

func TestExamples(t *testing.T) { // the chapter's table
	for _, x := range []struct {
		s    string
		fuel int64
		want answer
	}{
		{`BEGIN EMIT("x")`, 100, answer{"x", halt(), 97, 0}},
		{`VAR i: INTEGER; BEGIN FOR i := 1 TO 3 DO EMIT(CHR(i + 48)) END`, 100, answer{"123", halt(), 74, 0}},
		{`VAR c: CHAR; BEGIN REPEAT TAKE(c); EMIT(c) UNTIL FALSE`, 100, answer{"ab", wait(), 80, 0}},
		{`PROCEDURE P; BEGIN P END P; BEGIN P`, 100, answer{"", api.End{Kind: api.EndBudget}, 0, 0}},
		{`PROCEDURE P; BEGIN P END P; BEGIN P`, 1000, answer{"", trapped(api.TrapStack), 805, 0}},
		{`VAR a: ARRAY 2 OF INTEGER; i: INTEGER; BEGIN i := 2; a[i] := 1 DIV i`, 100, answer{"", trapped(api.TrapIndex), 93, 0}},
		{`BEGIN WHILE TRUE DO END`, 100, answer{"", api.End{Kind: api.EndBudget}, 0, 0}},
	} {
		if got := run3(alone(t, x.s), "ab", x.fuel); got != x.want {
			t.Errorf("%s: %v; want %v", x.s, got, x.want)
		}
	}
	if _, _, e := check.Source("MODULE M; VAR a: ARRAY 2 OF INTEGER; i: INTEGER; BEGIN i := 2; a[i] := 1 DIV 0 END M.", nil); e != api.ErrCheckConst {
		t.Error(e)
	}
}

func TestExamplesOfTheWhole(t *testing.T) { // DOC.md's first four
	for _, x := range []struct {
		s, input string
		out      string
		end      api.End
	}{
		{`BEGIN EMIT("a")`, "", "a", halt()},
		{`VAR a: ARRAY 3 OF INTEGER; i: INTEGER; BEGIN i := 3; EMIT("x"); a[i] := 1; EMIT("y")`, "", "x", trapped(api.TrapIndex)},
		{`VAR c: CHAR; BEGIN REPEAT TAKE(c); EMIT(c) UNTIL c = "."`, "ab", "ab", wait()},
		{`VAR c: CHAR; BEGIN REPEAT TAKE(c); EMIT(c) UNTIL c = "."`, "a.b", "a.", halt()},
		{`PROCEDURE P(x: INTEGER); BEGIN P(x + 1) END P; BEGIN P(0)`, "", "", trapped(api.TrapStack)},
	} {
		if got := run3(alone(t, x.s), x.input, much); got.out != x.out || got.end != x.end || got.e != api.OK {
			t.Errorf("%s: %v; want %q, %v", x.s, got, x.out, x.end)
		}
	}
}

func TestArguments(t *testing.T) { // P14.1: ErrArg, ahead of ErrSemForm
	mods := alone(t, `BEGIN EMIT("x")`)
	full := strings.Repeat("i", api.MaxIn)
	for _, x := range []struct {
		mods  []api.Mod
		input string
		fuel  int64
		want  answer
	}{
		{mods, "", -1, answer{e: api.ErrArg}},
		{mods, "", api.MaxFuel + 1, answer{e: api.ErrArg}},
		{mods, "", -1 << 63, answer{e: api.ErrArg}},
		{mods, "", 1<<63 - 1, answer{e: api.ErrArg}},
		{mods, full + "i", 100, answer{e: api.ErrArg}},
		{nil, full + "i", 100, answer{e: api.ErrArg}},
		{nil, "", -1, answer{e: api.ErrArg}},
		{nil, "", 0, answer{e: api.ErrSemForm}},
		{[]api.Mod{}, "x", 5, answer{e: api.ErrSemForm}},
		{mods, full, api.MaxFuel, answer{out: "x", end: halt(), left: api.MaxFuel - 3}},
		{mods, "", 0, answer{end: api.End{Kind: api.EndBudget}}},
		{alone(t, ""), "", 0, answer{end: halt()}},
		{alone(t, "VAR i: INTEGER;"), "", api.MaxFuel, answer{end: halt(), left: api.MaxFuel}},
	} {
		if got := run3(x.mods, x.input, x.fuel); got != x.want {
			t.Errorf("%d modules, %d bytes, %d: %v; want %v", len(x.mods), len(x.input), x.fuel, got, x.want)
		}
	}
}

// three are modules of which the second imports the first, the third both.
func three(t *testing.T) (a, b, c api.Mod) {
	t.Helper()
	a = checked(t, `MODULE A; VAR n*: INTEGER; BEGIN EMIT("a"); n := 1 END A.`)
	b = checked(t, `MODULE B; IMPORT A; VAR m*: INTEGER; BEGIN EMIT("b"); m := A.n + 1 END B.`, a)
	c = checked(t, `MODULE C; IMPORT B, A; BEGIN EMIT(CHR(48 + 10 * A.n + B.m)) END C.`, a, b)
	return a, b, c
}

func TestModulesFitTogether(t *testing.T) { // P14.1: ErrSemForm
	a, b, c := three(t)
	other := checked(t, `MODULE A; VAR n*: INTEGER; x: CHAR; BEGIN EMIT("o"); n := 3 END A.`)
	changed := checked(t, `MODULE A; VAR n*: BYTE; END A.`)
	more := checked(t, `MODULE A; CONST k* = 1; VAR n*: INTEGER; END A.`)
	system := checked(t, `MODULE S; IMPORT SYSTEM; END S.`)
	one := func(m api.Mod, change func(*api.Mod)) api.Mod {
		change(&m)
		return m
	}
	keyed := one(b, func(m *api.Mod) { m.Imports = []api.Import{{Name: "A", Key: 77}} })
	for _, x := range []struct {
		what string
		mods []api.Mod
		want answer
	}{
		{"all", []api.Mod{a, b, c}, answer{out: "ab<", end: halt()}},
		{"the first", []api.Mod{a}, answer{out: "a", end: halt()}},
		{"another one that shows the same", []api.Mod{other, b, c}, answer{out: "obR", end: halt()}},
		{"whatever Keys are", []api.Mod{a, keyed, c}, answer{out: "ab<", end: halt()}},
		{"SYSTEM", []api.Mod{system}, answer{e: api.ErrSemForm}},
		{"SYSTEM behind", []api.Mod{a, system}, answer{e: api.ErrSemForm}},
		{"twice", []api.Mod{a, a}, answer{e: api.ErrSemForm}},
		{"a name twice", []api.Mod{a, b, other}, answer{e: api.ErrSemForm}},
		{"none ahead", []api.Mod{b}, answer{e: api.ErrSemForm}},
		{"behind", []api.Mod{b, a}, answer{e: api.ErrSemForm}},
		{"one of two", []api.Mod{a, c}, answer{e: api.ErrSemForm}},
		{"in another order", []api.Mod{a, c, b}, answer{e: api.ErrSemForm}},
		{"that shows another thing", []api.Mod{changed, b}, answer{e: api.ErrSemForm}},
		{"that shows one more", []api.Mod{more, b}, answer{e: api.ErrSemForm}},
	} {
		got := run3(x.mods, "", much)
		got.left = 0
		if got != x.want {
			t.Errorf("%s: %v; want %v", x.what, got, x.want)
		}
	}
}

func TestSymsAreHeldAgainstWhatIsShown(t *testing.T) { // P14.1: each part of a Sym
	lib := `MODULE A; CONST k* = 1; s* = "x"; VAR n*: INTEGER; a*: ARRAY 2 OF CHAR; PROCEDURE P*(VAR x: ARRAY OF CHAR; y: SET): CHAR; RETURN "x" END P; PROCEDURE Q*; END Q; END A.`
	a := checked(t, lib)
	for i, from := range []string{"k* = 1", "k* = 1", "k* = 1", `"x"; VAR`, `"x"; VAR`, "n*: I", "n*: INTEGER", "2 OF CHAR", "2 OF CHAR", "2 OF CHAR", "VAR x", "ARRAY OF CHAR", "ARRAY OF CHAR", "y: SET", "; y: SET", "): CHAR", "PROCEDURE Q*; END Q;", "PROCEDURE Q*; END Q;", "VAR n*: INTEGER;", "CONST k"} {
		to := []string{"k* = 2", "k* = TRUE", "k = 1", `"y"; VAR`, `"xx"; VAR`, "n: I", "n*: SET", "3 OF CHAR", "2 OF BYTE", "2 OF CHAR; b*: SET", "x", "CHAR", "ARRAY OF BYTE", "y: INTEGER", "", "; z: INTEGER): CHAR", "", "PROCEDURE Q*(): BYTE; RETURN 1 END Q;", "VAR n*: BYTE;", "CONST j* = 1; k"}[i]
		other := strings.Replace(lib, from, to, 1)
		if other == lib {
			t.Fatal(from)
		}
		b := checked(t, `MODULE B; IMPORT A; BEGIN EMIT("b") END B.`, checked(t, other))
		if got := run3([]api.Mod{a, b}, "", much); got != (answer{e: api.ErrSemForm}) {
			t.Errorf("%s: %v", other, got)
		}
		if got := run3([]api.Mod{checked(t, other), b}, "", much); got.out != "b" || got.e != api.OK {
			t.Errorf("%s: %v", other, got)
		}
	}
	for i, change := range []func(*api.Sym){
		func(s *api.Sym) { s.Consts[0].Export = false },
		func(s *api.Sym) { s.Procs[0].Params[0].Name = "x" },
		func(s *api.Sym) { s.Procs = s.Procs[:1] },
		func(s *api.Sym) { s.Consts[1].N = 1 },
	} {
		x, _ := sym.Of(a)
		change(&x)
		b, _, e := check.Source(`MODULE B; IMPORT A; END B.`, []api.Sym{x})
		if got := run3([]api.Mod{a, b}, "", much); e != api.OK || got != (answer{e: api.ErrSemForm}) {
			t.Error(i, e, got)
		}
	}
	empty := checked(t, "MODULE A; END A.")
	b, _, e := check.Source("MODULE B; IMPORT A; END B.", []api.Sym{{Name: "A", Consts: []api.Const{}, Vars: []api.SymVar{}, Procs: []api.SymProc{}}})
	if got := run3([]api.Mod{empty, b}, "", 1); e != api.OK || got != (answer{end: halt(), left: 1}) {
		t.Error("nil and empty lists are one", e, got)
	}
}

func TestModulesAreRunInOrder(t *testing.T) { // P14.1
	a := checked(t, `MODULE A; VAR n*: INTEGER; PROCEDURE Up*; BEGIN INC(n) END Up; BEGIN EMIT("a"); n := 5 END A.`)
	b := checked(t, `MODULE B; BEGIN EMIT("b"); HALT END B.`)
	c := checked(t, `MODULE C; IMPORT A; BEGIN A.Up; A.Up; EMIT(CHR(48 + A.n)) END C.`, a)
	d := checked(t, `MODULE D; VAR i: INTEGER; BEGIN EMIT("d"); i := 1 DIV i END D.`)
	e := checked(t, `MODULE E; VAR c: CHAR; BEGIN TAKE(c); EMIT(c) END E.`)
	e2 := checked(t, `MODULE E2; VAR c: CHAR; BEGIN TAKE(c); EMIT(c) END E2.`)
	for _, x := range []struct {
		mods  []api.Mod
		input string
		out   string
		end   api.End
		used  int64
	}{
		{[]api.Mod{a, c}, "", "a7", halt(), 6 + 3 + 3 + 3 + 3 + 6},
		{[]api.Mod{a, b, c}, "", "ab", halt(), 6 + 5},
		{[]api.Mod{a, c, b}, "", "a7b", halt(), 6 + 18 + 5},
		{[]api.Mod{b, a}, "", "b", halt(), 5},
		{[]api.Mod{d, a}, "", "d", trapped(api.TrapDivide), 8},
		{[]api.Mod{a, d}, "", "ad", trapped(api.TrapDivide), 14},
		{[]api.Mod{e, a, e2}, "xyz", "xay", halt(), 6 + 6 + 6},
		{[]api.Mod{e, a, e2}, "x", "xa", wait(), 6 + 6 + 3},
		{[]api.Mod{e, a, e2}, "", "", wait(), 3},
	} {
		asks(t, fmt.Sprint(len(x.mods)), x.mods, x.input, x.out, x.end, x.used)
	}
}

func TestImportedThings(t *testing.T) { // P14.1: EGlobal and ECall of other modules, some of whose things are not shown
	halts(t, "L.Set(21); ASSERT(L.n = 21); ASSERT(L.Twice() = 42); L.Set(1); ASSERT(L.n + L.Twice() = 3)", "")
	halts(t, "L.Fill; ASSERT(L.a[0] = 10); ASSERT(L.a[2] = 30); ASSERT(L.Sum(L.a) = 60); ASSERT(L.y = 255); L.Say(L.t); EMIT(L.t[1]); ASSERT(LEN(L.a) = 3)", "teae")
	halts(t, "v[1] := 3; v[3] := 4; ASSERT(L.Sum(v) = 7); ASSERT(L.Sum(w[1]) = 0); NEW(p); p.v[2] := 8; ASSERT(L.Sum(p.v) = 8)", "")
	halts(t, "i := 4; L.Up(i, s); ASSERT(i = 5); L.Say(s); NEW(p); L.Up(p.x, s); ASSERT(p.x = 1); L.Up(v[2], s); ASSERT(v[2] = 1)", "up")
	halts(t, "ASSERT(L.Low(300) = 44); ASSERT(L.k = 7); EMIT(L.kc); ASSERT(L.ks = {1, 3}); L.Say(\"str\"); L.Say(\"\")", "qstr")
	i := "MODULE M; IMPORT L; VAR i: INTEGER; c: CHAR; BEGIN i := 3; L.Fill; i := L.a[i] END M."
	l := checked(t, library)
	if got := run3([]api.Mod{l, checked(t, i, l)}, "", much); got.end != trapped(api.TrapIndex) {
		t.Error(got)
	}
	deep := checked(t, `MODULE D; PROCEDURE A*(n: INTEGER): INTEGER; BEGIN IF n > 1 THEN n := A(n - 1) END RETURN n END A; END D.`)
	for n, end := range map[int]api.End{62: halt(), 63: halt(), 64: trapped(api.TrapStack)} {
		m := checked(t, fmt.Sprintf("MODULE M; IMPORT D; PROCEDURE B(): INTEGER; RETURN D.A(%d) END B; BEGIN ASSERT(B() = 1) END M.", n), deep)
		if got := run3([]api.Mod{deep, m}, "", much); got.end != end {
			t.Errorf("%d: %v", n, got)
		}
	}
}

func TestInput(t *testing.T) { // P14.1: TAKE, EndWait
	const echo = "VAR c: CHAR; i: INTEGER; BEGIN "
	bytes := make([]byte, 256)
	for i := range bytes {
		bytes[i] = byte(i)
	}
	if got := run3(alone(t, echo+"FOR i := 0 TO 255 DO TAKE(c); EMIT(c); ASSERT(ORD(c) = i) END"), string(bytes), much); got.out != string(bytes) || got.end != halt() {
		t.Errorf("%q, %v", got.out, got.end)
	}
	if got := run3(alone(t, echo+"WHILE TRUE DO TAKE(c); INC(i); IF i MOD 8192 = 0 THEN EMIT(c) END END"), strings.Repeat("q", api.MaxIn), api.MaxFuel); got.out != "qqqqqqqq" || got.end != wait() {
		t.Error(got)
	}
	if got := run3(alone(t, echo+`c := "z"; TAKE(c)`), "", much); got != (answer{end: wait(), left: much - 6}) {
		t.Error(got)
	}
}

func TestOutputIsLost(t *testing.T) { // P14.1: behind 65536 bytes; it is paid for all the same
	mods := alone(t, `VAR i: INTEGER; BEGIN FOR i := 1 TO 65535 DO EMIT("x") END; EMIT("y"); EMIT("z"); EMIT("z"); i := 1 DIV (i - i)`)
	got := run3(mods, "", api.MaxFuel)
	if want := strings.Repeat("x", 65535) + "y"; got.out != want || got.end != trapped(api.TrapDivide) || got.left != api.MaxFuel-(4+65536+3*65535+9+7) {
		t.Errorf("%d bytes, %v, %d", len(got.out), got.end, got.left)
	}
}

func TestModulesStay(t *testing.T) { // P14.2, R3
	mods := behind(t, `s := "abc"; v[1] := 3; NEW(p); p^ := r; L.Up(i, s); L.Say(s); L.Say("str"); FOR i := 0 TO 2 DO w[i] := v END`)
	was := fmt.Sprintf("%#v", mods)
	first := run3(mods, "in", much)
	if first.out != "upstr" || first.end != trapped(api.TrapIndex) {
		t.Error(first)
	}
	for range 3 {
		if again := run3(mods, "in", much); again != first {
			t.Errorf("%v, then %v", first, again)
		}
	}
	if fmt.Sprintf("%#v", mods) != was {
		t.Error("written into")
	}
	room := append(append(make([]api.Mod, 0, 9), mods...), api.Mod{Name: "kept"})
	run3(room[:2], "", much)
	if room[2].Name != "kept" || !reflect.DeepEqual(room[:2], mods) {
		t.Error("its spare room was written into")
	}
}
