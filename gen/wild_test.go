package gen

import (
	"math/rand"
	"reflect"
	"slices"
	"testing"

	"carrel/api"
	"carrel/obj"
)

// Mods that check has not answered: P15.2 asks for an error or a right object, R1 that a call ends and does not panic, R2 that beside an error there is nothing.

func wildNumber(r *rand.Rand) int {
	return []int{-1, 0, 1, 2, 3, 7, 8, 9, 12, 31, 32, 200, 1 << 20, 1 << 31, 1 << 40, -1 << 63, 1<<63 - 1, r.Intn(40)}[r.Intn(18)]
}

func wildExpr(r *rand.Rand, x api.Expr) api.Expr {
	x.Kids = slices.Clone(x.Kids)
	if r.Intn(60) == 0 {
		switch r.Intn(6) {
		case 0:
			x.Op = r.Intn(40) - 2
		case 1:
			x.Type = wildNumber(r)
		case 2:
			x.M = wildNumber(r)
		case 3:
			x.N = int64(wildNumber(r))
		case 4:
			x.Kids = x.Kids[:r.Intn(len(x.Kids)+1)]
		case 5:
			x.Kids = append(x.Kids, api.Expr{Op: api.ELit, Type: r.Intn(8), N: int64(wildNumber(r))})
		}
	}
	for i := range x.Kids {
		x.Kids[i] = wildExpr(r, x.Kids[i])
	}
	return x
}

func wildBlock(r *rand.Rand, l []api.Stat) []api.Stat {
	l = slices.Clone(l)
	for i := range l {
		s := &l[i]
		s.Exprs, s.Blocks = slices.Clone(s.Exprs), slices.Clone(s.Blocks)
		switch r.Intn(150) {
		case 0:
			s.Op = r.Intn(10) - 1
		case 1:
			s.N = int64(wildNumber(r))
		case 2:
			s.Exprs = s.Exprs[:r.Intn(len(s.Exprs)+1)]
		case 3:
			s.Blocks = s.Blocks[:r.Intn(len(s.Blocks)+1)]
		case 4:
			s.Blocks = append(s.Blocks, nil)
		}
		for k := range s.Exprs {
			s.Exprs[k] = wildExpr(r, s.Exprs[k])
		}
		for k := range s.Blocks {
			s.Blocks[k] = wildBlock(r, s.Blocks[k])
		}
	}
	return l
}

func wildMod(r *rand.Rand, m api.Mod) api.Mod {
	m.Init = wildBlock(r, m.Init)
	m.Procs = slices.Clone(m.Procs)
	for i := range m.Procs {
		p := &m.Procs[i]
		p.Body = wildBlock(r, p.Body)
		p.Vars = slices.Clone(p.Vars)
		switch r.Intn(40) {
		case 0:
			p.Params = wildNumber(r)
		case 1:
			p.Value = nil
		case 2:
			p.Result = wildNumber(r)
		case 3:
			p.Vars = p.Vars[:r.Intn(len(p.Vars)+1)]
		case 4:
			p.Export = !p.Export
		}
	}
	m.Vars, m.Types = slices.Clone(m.Vars), slices.Clone(m.Types)
	if r.Intn(5) == 0 {
		m.Vars[r.Intn(len(m.Vars))].Type = wildNumber(r)
	}
	if x := &m.Types[r.Intn(len(m.Types))]; r.Intn(4) == 0 {
		switch r.Intn(6) {
		case 0:
			x.Size = wildNumber(r)
		case 1:
			x.Len = wildNumber(r)
		case 2:
			x.Elem = wildNumber(r)
		case 3:
			x.Base = wildNumber(r)
		case 4:
			x.Form = r.Intn(14) - 1
		case 5:
			m.Types = m.Types[:r.Intn(len(m.Types))]
		}
	}
	if r.Intn(20) == 0 {
		m.Strings = nil
	}
	if r.Intn(20) == 0 {
		m.Syms = nil
	}
	return m
}

// judged holds P15.2 of a Mod; was it refused?
func judged(t *testing.T, m api.Mod) bool {
	t.Helper()
	o, e := Module(m)
	switch {
	case e == api.OK && obj.Right(o):
		return false
	case (e == api.ErrGenForm || e == api.ErrGenLong) && reflect.DeepEqual(o, api.Object{}):
		return true
	}
	t.Errorf("%v, right %v, %d words", e, obj.Right(o), len(o.Code))
	return true
}

func TestWildMods(t *testing.T) { // P15.2
	r := rand.New(rand.NewSource(154))
	refused, taken := 0, 0
	for _, mods := range chanceMods(t, r, 60) {
		for range 30 {
			m := wildMod(r, mods[1])
			if r.Intn(10) == 0 {
				m = wildMod(r, mods[0])
			}
			if judged(t, m) {
				refused++
			} else {
				taken++
			}
			first, e := Module(m)
			if again, e2 := Module(m); e != e2 || !reflect.DeepEqual(first, again) {
				t.Fatal("another answer")
			}
		}
	}
	if refused < 100 || taken < 100 {
		t.Errorf("chance is one-sided: %d, %d", refused, taken)
	}
}

func TestEmptyMods(t *testing.T) { // P15.2: modules of which something is not there
	m := checked(t, "MODULE M; TYPE P = POINTER TO R; R = RECORD END; VAR i: INTEGER; p: P; PROCEDURE Q; END Q; BEGIN i := 1 END M.")
	with := func(s api.Stat) api.Mod {
		m.Init = []api.Stat{s}
		return m
	}
	lists := [][]api.Expr{nil, {{}}, {{}, {}, {}}}
	for op := -1; op < 10; op++ {
		judged(t, with(api.Stat{Op: op}))
		judged(t, with(api.Stat{Op: op, Exprs: make([]api.Expr, 3), Blocks: make([][]api.Stat, 3)}))
		for e := -1; e < 40; e++ {
			for n := int64(-1); n < 25; n++ {
				for _, kids := range lists {
					for i := range kids {
						kids[i] = api.Expr{Op: api.ELit, N: n}
					}
					x := api.Expr{Op: e, N: n, M: -1, Kids: kids}
					judged(t, with(api.Stat{Op: op, Exprs: []api.Expr{x, x, x}, Blocks: make([][]api.Stat, 2)}))
				}
			}
		}
	}
}

func TestDeepMods(t *testing.T) { // P15.2, R1, R5: as much as may be within one another, and more
	for _, deep := range []int{1 << 16, 1 << 17} {
		for op := api.ELit; op <= api.EStd; op++ {
			for place := range 2 {
				x := api.Expr{Op: api.EGlobal, M: -1, Type: api.Integer}
				for range deep {
					kids := []api.Expr{x, {Op: api.EGlobal, M: -1, Type: api.Integer}}
					kids[place], kids[1-place] = kids[0], kids[1]
					if op == api.ENot || op == api.EDeref || op == api.ECall {
						kids = kids[place : place+1]
					}
					x = api.Expr{Op: op, N: int64(api.StdAbs * place), M: -1, Type: api.Integer, Kids: kids}
				}
				m := checked(t, "MODULE M; VAR i: INTEGER; PROCEDURE P(a: INTEGER): INTEGER; RETURN 1 END P; END M.")
				m.Init = []api.Stat{{Op: api.SAssign, Exprs: []api.Expr{{Op: api.EGlobal, M: -1, Type: api.Integer}, x}}, {Op: api.SRepeat, Exprs: []api.Expr{x}, Blocks: make([][]api.Stat, 1)}}
				judged(t, m)
			}
		}
	}
	m := checked(t, "MODULE M; END M.")
	for range 1 << 16 {
		m.Init = []api.Stat{{Op: api.SRepeat, Exprs: []api.Expr{{Op: api.ELit, Type: api.Boolean, N: 1}}, Blocks: [][]api.Stat{m.Init}}}
	}
	judged(t, m)
}

func TestModsWithinThemselves(t *testing.T) { // lists that have themselves within have no end
	m := checked(t, "MODULE M; VAR i: INTEGER; PROCEDURE P(a: INTEGER): INTEGER; RETURN 1 END P; BEGIN i := i + i END M.")
	for op := api.ELit; op <= api.EStd; op++ {
		for n := range int64(api.StdCall + 1) {
			if n > 1 && op != api.EStd {
				continue
			}
			kids := make([]api.Expr, 2)
			x := api.Expr{Op: op, N: n, M: -1, Type: api.Integer, Kids: kids}
			kids[0], kids[1] = x, x
			m.Init = []api.Stat{{Op: api.SCall, Exprs: []api.Expr{x}}}
			judged(t, m)
		}
	}
	block := make([]api.Stat, 1)
	block[0] = api.Stat{Op: api.SIf, Blocks: [][]api.Stat{block}}
	m.Init = block
	if !judged(t, m) {
		t.Error("a Block without an end")
	}
	shared := api.Expr{Op: api.EGlobal, M: -1, Type: api.Integer}
	for range 60 {
		shared = api.Expr{Op: api.EField, Type: api.Integer, Kids: []api.Expr{shared, shared}}
	}
	var blocks []api.Stat
	for range 60 {
		blocks = []api.Stat{{Op: api.SIf, Blocks: [][]api.Stat{blocks}}, {Op: api.SIf, Blocks: [][]api.Stat{blocks}}}
	}
	m.Init = append(blocks, api.Stat{Op: api.SCall, Exprs: []api.Expr{shared}})
	judged(t, m)
	truth := api.Expr{Op: api.ELit, Type: api.Boolean, N: 1}
	for range 60 { // nothing is made of it, however often it is looked at
		truth = api.Expr{Op: api.EAnd, Type: api.Boolean, Kids: []api.Expr{truth, truth}}
	}
	m.Init = []api.Stat{{Op: api.SIf, Exprs: []api.Expr{truth}, Blocks: make([][]api.Stat, 1)}}
	if !judged(t, m) {
		t.Error("more than 2^60 parts")
	}
}

func TestGreatMods(t *testing.T) { // P15.2, R1: long lists
	m := checked(t, "MODULE M; END M.")
	for _, change := range []func(m *api.Mod){
		func(m *api.Mod) { m.Vars = make([]api.Var, 1<<18) },
		func(m *api.Mod) { m.Types = make([]api.Type, 1<<18) },
		func(m *api.Mod) { m.Types = append(m.Types, make([]api.Type, 1<<18)...) },
		func(m *api.Mod) { m.Procs = make([]api.Proc, 1<<18) },
		func(m *api.Mod) { m.Procs = []api.Proc{{Name: "P", Vars: make([]api.Var, 1<<18)}} },
		func(m *api.Mod) { m.Procs = []api.Proc{{Name: "P", Params: 1 << 18, Vars: make([]api.Var, 1<<18)}} },
		func(m *api.Mod) { m.Strings = make([]string, 1<<18) },
		func(m *api.Mod) { m.Imports = make([]api.Import, 1<<18) },
		func(m *api.Mod) { m.Init = make([]api.Stat, 1<<18) },
		func(m *api.Mod) {
			m.Init = []api.Stat{{Op: api.SCall, Exprs: []api.Expr{{Op: api.ESet, Kids: make([]api.Expr, 1<<18)}}}}
		},
	} {
		other := m
		change(&other)
		if !judged(t, other) {
			t.Error("it is taken")
		}
	}
}
