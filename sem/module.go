package sem

import (
	"slices"

	"carrel/api"
	"carrel/sym"
	"carrel/types"
)

// module is one that is run.
type module struct {
	mod        *api.Mod
	imports    []*module
	shown      api.Sym
	shows      bool       // there is something that it may be said to show
	shownVars  []int      // which of its variables others see, by their numbers there
	shownProcs []int      // which of its procedures
	globals    []variable // each without bytes till it is first reckoned: of what is never used there may be a great deal
	kin        map[kinship]int
}

// kinship is a question: is a record of a type one of another, or of one that extends that?
type kinship struct{ of, asked int }

// together makes what is run of modules; false, if they can't be run with one another.
func together(mods []api.Mod) ([]*module, bool) {
	l := make([]*module, 0, len(mods))
	places := map[string]int{}
	for i := range mods {
		m := newModule(&mods[i])
		if _, twice := places[m.mod.Name]; twice || m.mod.System {
			return nil, false
		}
		for k, one := range m.mod.Imports {
			at, ok := places[one.Name]
			if !ok || k >= len(m.mod.Syms) || !l[at].isShownAs(m.mod.Syms[k]) {
				return nil, false
			}
			m.imports = append(m.imports, l[at])
		}
		places[m.mod.Name] = i
		l = append(l, m)
	}
	return l, len(l) > 0
}

func newModule(mod *api.Mod) *module {
	m := &module{mod: mod, globals: make([]variable, len(mod.Vars)), kin: map[kinship]int{}}
	shown, e := sym.Of(*mod)
	m.shown, m.shows = shown, e == api.OK
	for i, v := range mod.Vars {
		if v.Export {
			m.shownVars = append(m.shownVars, i)
		}
	}
	for i, p := range mod.Procs {
		if p.Export {
			m.shownProcs = append(m.shownProcs, i)
		}
	}
	return m
}

// isShownAs: are symbols those that it shows?
func (m *module) isShownAs(s api.Sym) bool {
	same := func(a, b api.SymProc) bool {
		return a.Name == b.Name && a.Result == b.Result && slices.Equal(a.Params, b.Params)
	}
	return m.shows && m.shown.Name == s.Name && slices.Equal(m.shown.Consts, s.Consts) &&
		slices.Equal(m.shown.Vars, s.Vars) && slices.EqualFunc(m.shown.Procs, s.Procs, same)
}

// text is a variable of a string's bytes and 0X, each time another one, so that none is ever set.
func (m *module) text(n int64) variable {
	s := m.mod.Strings[n]
	return variable{form: api.String, length: len(s) + 1, bytes: append([]byte(s), 0)}
}

// size is that of a type, of which no more is asked for than a type may have, whatever the module is.
func (m *module) size(t int) int {
	n := m.mod.Types[t].Size
	if n < 0 || n > api.MaxSize {
		panic(api.ErrSemForm)
	}
	return n
}

func (m *module) newVariable(t int) variable { return m.variableAt(t, make([]byte, m.size(t))) }

// variableAt is a variable of a type that has these bytes.
func (m *module) variableAt(t int, bytes []byte) variable {
	return variable{form: m.mod.Types[t].Form, length: m.mod.Types[t].Len, bytes: bytes}
}

// global is a module's variable: its own, or one that an imported module shows.
func (m *module) global(from int, n int64) variable {
	if from < 0 {
		return m.own(int(n))
	}
	other := m.imports[from]
	return other.own(other.shownVars[n])
}

func (m *module) own(n int) variable {
	if m.globals[n].bytes == nil {
		m.globals[n] = m.newVariable(m.mod.Vars[n].Type)
	}
	return m.globals[n]
}

// procedure is likewise one of a module, and that module.
func (m *module) procedure(from int, n int64) (*module, *api.Proc) {
	if from < 0 {
		return m, &m.mod.Procs[n]
	}
	other := m.imports[from]
	return other, &other.mod.Procs[other.shownProcs[n]]
}

// isOf: is a record of a type one that a pointer type asks for? (Asked of types once: that reads its whole row at each question.)
func (m *module) isOf(of, pointer int) bool {
	k := kinship{of, m.mod.Types[pointer].Elem}
	n, ok := m.kin[k]
	if !ok {
		if types.Extends(m.mod.Types, k.of, k.asked) {
			n = 1
		}
		m.kin[k] = n
	}
	return n != 0
}
