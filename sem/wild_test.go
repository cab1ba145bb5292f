package sem

import (
	"math/rand"
	"slices"
	"strings"
	"testing"

	"carrel/api"
	"carrel/check"
	"carrel/tree"
)

// Mods that check has not answered: nothing is promised of them, but that a call ends and does not panic (R1), and that beside an error there is nothing (R2).

func wildNumber(r *rand.Rand) int {
	return []int{-1, 0, 1, 2, 3, 7, 8, 9, 12, 31, 32, 200, 1 << 20, 1 << 31, 1 << 40, -1 << 63, 1<<63 - 1, r.Intn(40)}[r.Intn(18)]
}

func wildExpr(r *rand.Rand, x api.Expr) api.Expr {
	x.Kids = slices.Clone(x.Kids)
	if r.Intn(60) == 0 {
		switch r.Intn(6) {
		case 0:
			x.Op = r.Intn(40) - 2
		case 1:
			x.Type = wildNumber(r)
		case 2:
			x.M = wildNumber(r)
		case 3:
			x.N = int64(wildNumber(r))
		case 4:
			x.Kids = x.Kids[:r.Intn(len(x.Kids)+1)]
		case 5:
			x.Kids = append(x.Kids, api.Expr{Op: api.ELit, Type: r.Intn(8), N: int64(wildNumber(r))})
		}
	}
	for i := range x.Kids {
		x.Kids[i] = wildExpr(r, x.Kids[i])
	}
	return x
}

func wildBlock(r *rand.Rand, l []api.Stat) []api.Stat {
	l = slices.Clone(l)
	for i := range l {
		s := &l[i]
		s.Exprs, s.Blocks = slices.Clone(s.Exprs), slices.Clone(s.Blocks)
		switch r.Intn(150) {
		case 0:
			s.Op = r.Intn(10) - 1
		case 1:
			s.N = int64(wildNumber(r))
		case 2:
			s.Exprs = s.Exprs[:r.Intn(len(s.Exprs)+1)]
		case 3:
			s.Blocks = s.Blocks[:r.Intn(len(s.Blocks)+1)]
		case 4:
			s.Blocks = append(s.Blocks, nil)
		}
		for k := range s.Exprs {
			s.Exprs[k] = wildExpr(r, s.Exprs[k])
		}
		for k := range s.Blocks {
			s.Blocks[k] = wildBlock(r, s.Blocks[k])
		}
	}
	return l
}

func wildMod(r *rand.Rand, m api.Mod) api.Mod {
	m.Init = wildBlock(r, m.Init)
	m.Procs = slices.Clone(m.Procs)
	for i := range m.Procs {
		p := &m.Procs[i]
		p.Body = wildBlock(r, p.Body)
		p.Vars = slices.Clone(p.Vars)
		switch r.Intn(40) {
		case 0:
			p.Params = wildNumber(r)
		case 1:
			p.Value = nil
		case 2:
			p.Result = wildNumber(r)
		case 3:
			p.Vars = p.Vars[:r.Intn(len(p.Vars)+1)]
		case 4:
			p.Export = !p.Export
		}
	}
	m.Vars, m.Types = slices.Clone(m.Vars), slices.Clone(m.Types)
	if r.Intn(5) == 0 {
		m.Vars[r.Intn(len(m.Vars))].Type = wildNumber(r)
	}
	if x := &m.Types[r.Intn(len(m.Types))]; r.Intn(4) == 0 {
		switch r.Intn(6) {
		case 0:
			x.Size = wildNumber(r)
		case 1:
			x.Len = wildNumber(r)
		case 2:
			x.Elem = wildNumber(r)
		case 3:
			x.Base = wildNumber(r)
		case 4:
			x.Form = r.Intn(14) - 1
		case 5:
			m.Types = m.Types[:r.Intn(len(m.Types))]
		}
	}
	if r.Intn(20) == 0 {
		m.Strings = nil
	}
	if r.Intn(20) == 0 {
		m.Syms = nil
	}
	return m
}

func TestWildMods(t *testing.T) { // R1, R2
	r := rand.New(rand.NewSource(144))
	refused, taken := 0, 0
	for _, mods := range chanceMods(t, r, 150) {
		for range 20 {
			l := []api.Mod{wildMod(r, mods[0]), wildMod(r, mods[1])}
			if r.Intn(4) > 0 {
				l[0] = mods[0]
			}
			got := run3(l, "abc", 4000)
			switch {
			case got == answer{e: api.ErrSemForm}:
				refused++
			case got.e == api.OK && api.EndBudget <= got.end.Kind && got.end.Kind <= api.EndTrap && 0 <= got.left && got.left <= 4000:
				taken++
			default:
				t.Fatalf("%v", got)
			}
			if again := run3(l, "abc", 4000); again != got {
				t.Fatalf("%v, then %v", got, again)
			}
		}
	}
	if refused < 100 || taken < 100 {
		t.Errorf("chance is one-sided: %d, %d", refused, taken)
	}
}

func TestEmptyMods(t *testing.T) { // R1: a module of which nothing is there
	run3([]api.Mod{{}}, "", 10)
	run3([]api.Mod{{}, {}}, "", 10)
	run3([]api.Mod{{Name: "A"}, {Name: "B", Imports: []api.Import{{Name: "A"}}}}, "", 10)
	run3([]api.Mod{{Init: make([]api.Stat, 20)}}, "", 10)
	run3([]api.Mod{{Vars: make([]api.Var, 100), Procs: make([]api.Proc, 100)}}, "", 10)
	for op := -1; op < 10; op++ {
		for std := int64(-1); std < 25; std++ {
			for e := -1; e < 40; e++ {
				run3([]api.Mod{{Init: []api.Stat{{Op: op, Exprs: []api.Expr{{Op: e, N: std}}}}}}, "", 10)
			}
		}
	}
}

func TestDeepMods(t *testing.T) { // R1, R5: no stack is too small for what is nested 2^16 times
	kid := func(op int, n int64, first bool) []api.Mod {
		x := api.Expr{Op: api.ELit, Type: api.Integer}
		other := x
		for range 1 << 16 {
			kids := []api.Expr{x}
			if !first {
				kids = []api.Expr{other, x}
			}
			x = api.Expr{Op: op, N: n, M: -1, Type: api.Integer, Kids: kids}
		}
		m := checked(t, "MODULE M; PROCEDURE P(a, b: INTEGER): INTEGER; BEGIN EMIT(\"p\") RETURN 1 END P; END M.")
		m.Init = []api.Stat{{Op: api.SCall, Exprs: []api.Expr{x}}}
		return []api.Mod{m}
	}
	for _, x := range []struct {
		op    int
		n     int64
		first bool
	}{{api.EAdd, 0, false}, {api.ENeg, 0, true}, {api.ECall, 0, false}, {api.EStd, api.StdLsl, false}, {api.EStd, api.StdAbs, true}, {api.ESet, 0, true}} {
		run3(kid(x.op, x.n, x.first), "", api.MaxFuel)
	}
	var s []api.Stat
	for range 1 << 16 {
		s = []api.Stat{{Op: api.SRepeat, Exprs: []api.Expr{{Op: api.ELit, Type: api.Boolean, N: 1}}, Blocks: [][]api.Stat{s}}}
	}
	run3([]api.Mod{{Init: s}}, "", api.MaxFuel)
}

func TestDeepChains(t *testing.T) { // P14.1, R1: as deep as check takes it, in as many calls as there may be
	chain := func(kind, n int, text string) api.Node {
		x, _, _ := tree.Expr("A(n - 1)")
		for range n {
			kids := []api.Node{x}
			if kind == api.NBinary {
				kids = append(kids, api.Node{Kind: api.NName, Text: "n"})
			}
			x = api.Node{Kind: kind, Text: text, Kids: kids}
		}
		return x
	}
	for _, x := range []struct {
		source string
		kind   int
		text   string
		n      int
	}{
		{"MODULE M; VAR r: INTEGER; PROCEDURE A(n: INTEGER): INTEGER; VAR x: INTEGER; BEGIN IF n > 0 THEN x := 7 END RETURN x END A; BEGIN r := A(63); EMIT(CHR(48 + r MOD 10)) END M.", api.NBinary, "+", 7000},
		{"MODULE M; TYPE P = POINTER TO R; R = RECORD n: P END; VAR r: P; PROCEDURE A(n: INTEGER): P; VAR x: P; BEGIN NEW(x); x.n := x; IF n > 0 THEN x := NIL END RETURN x END A; BEGIN r := A(24); IF r # NIL THEN EMIT(\"k\") END END M.", api.NField, "n", 19000},
	} {
		n, at, e := tree.Module(x.source)
		if e != api.OK {
			t.Fatal(at, e)
		}
		deepen(&n, chain(x.kind, x.n, x.text))
		m, at, e := check.Module(n, nil)
		if e != api.OK {
			t.Fatal(at, e)
		}
		got, want := run3([]api.Mod{m}, "", api.MaxFuel), plainRun([]api.Mod{m}, "", api.MaxFuel)
		if got != want || got.end != halt() || len(got.out) != 1 {
			t.Errorf("%v; want %v", got, want)
		}
	}
}

// deepen puts an expression in the place of what is assigned in an If.
func deepen(n *api.Node, x api.Node) {
	for i := range n.Kids {
		k := &n.Kids[i]
		if n.Kind == api.NProc && k.Kind == api.NBlock {
			last := &k.Kids[len(k.Kids)-1]
			last.Kids[1].Kids[0].Kids[1] = x
			return
		}
		deepen(k, x)
	}
}

func TestMuch(t *testing.T) { // R1: as much as a run may do
	for _, s := range []string{
		"BEGIN WHILE TRUE DO END",
		"VAR a, b: ARRAY 16384 OF CHAR; BEGIN WHILE TRUE DO a := b END",
		"PROCEDURE P; VAR a: ARRAY 1024 OF CHAR; END P; BEGIN WHILE TRUE DO P END",
		"PROCEDURE P(s: ARRAY OF CHAR); END P; BEGIN WHILE TRUE DO P(\"" + strings.Repeat("x", 200) + "\") END",
		"TYPE P = POINTER TO R; R = RECORD END; Q = POINTER TO S; S = RECORD (R) END; VAR p: P; q: Q; i: INTEGER; BEGIN NEW(q); p := q; WHILE p IS Q DO p := p(Q) END",
		"VAR i: INTEGER; PROCEDURE F(n: INTEGER): INTEGER; VAR x: INTEGER; BEGIN IF n > 1 THEN x := F(n - 1) + F(n - 2) ELSE x := n END RETURN x END F; BEGIN i := F(40)",
	} {
		if got := run3(alone(t, s), "", api.MaxFuel); got != (answer{end: api.End{Kind: api.EndBudget}}) {
			t.Errorf("%s: %v", s, got)
		}
	}
}
