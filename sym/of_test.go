package sym

import (
	"math"
	"math/rand"
	"strconv"
	"strings"
	"testing"

	"carrel/api"
	"carrel/check"
	"carrel/types"
)

// The places of the types that sampleTypes has behind Basic's.
const (
	typeSets    = 8 + iota // ARRAY 3 OF SET
	typeText               // ARRAY 16384 OF CHAR
	typeRecord             // RECORD END
	typePointer            // to that
	typeRow                // ARRAY 2 OF ARRAY 3 OF SET
	typeRecords            // ARRAY 2 OF RECORD END
	typeChars              // ARRAY OF CHAR
	typeInts               // ARRAY OF INTEGER
	typeOpen               // ARRAY OF RECORD END
	typesEnd
)

func sampleTypes(t *testing.T) []api.Type {
	t.Helper()
	l := types.Basic()
	var place int
	var e api.Errno
	for i, add := range []func() ([]api.Type, int, api.Errno){
		func() ([]api.Type, int, api.Errno) { return types.AddArray(l, 3, api.Set) },
		func() ([]api.Type, int, api.Errno) { return types.AddArray(l, 16384, api.Char) },
		func() ([]api.Type, int, api.Errno) { return types.AddRecord(l, 0, nil, nil) },
		func() ([]api.Type, int, api.Errno) { return types.AddPointer(l, typeRecord) },
		func() ([]api.Type, int, api.Errno) { return types.AddArray(l, 2, typeSets) },
		func() ([]api.Type, int, api.Errno) { return types.AddArray(l, 2, typeRecord) },
		func() ([]api.Type, int, api.Errno) { return types.AddOpen(l, api.Char) },
		func() ([]api.Type, int, api.Errno) { return types.AddOpen(l, api.Integer) },
		func() ([]api.Type, int, api.Errno) { return types.AddOpen(l, typeRecord) },
	} {
		if l, place, e = add(); e != api.OK || place != typeSets+i {
			t.Fatal(i, place, e)
		}
	}
	return l
}

// sampleMod is a module with something of everything, shown and not.
func sampleMod(t *testing.T) api.Mod {
	return api.Mod{
		Name: "M", Types: sampleTypes(t),
		Consts: []api.Const{
			{Name: "h", Type: api.Char, N: 1}, {Name: "n", Type: api.Integer, N: -5, Export: true},
			{Name: "s", Type: api.String, S: "xy", Export: true}, {Name: "h2", Type: api.String},
		},
		Vars: []api.Var{
			{Name: "r", Type: typeRecord}, {Name: "a", Type: typeSets, Export: true}, {Name: "b", Type: api.Boolean, Export: true},
			{Name: "p", Type: typePointer}, {Name: "t", Type: typeText, Export: true},
		},
		Procs: []api.Proc{
			{Name: "N", Vars: []api.Var{{Name: "x", Type: typeRecord}}, Params: 1, Result: typePointer},
			{Name: "P", Export: true, Vars: []api.Var{{Name: "own", Type: typeRecord}}, Body: []api.Stat{{Op: api.SRepeat}}},
			{
				Name: "Q", Export: true, Params: 4, Result: api.Byte, Value: []api.Expr{{Op: api.ELit}},
				Vars: []api.Var{
					{Name: "i", Type: api.Integer}, {Name: "j", Type: api.Char, Ref: true}, {Name: "k", Type: typeChars},
					{Name: "l", Type: typeInts, Ref: true}, {Name: "own", Type: typePointer}, {Name: "more", Type: -1},
				},
			},
		},
	}
}

// sampleShown is what it shows.
func sampleShown() api.Sym {
	return api.Sym{
		Name:   "M",
		Consts: []api.Const{{Name: "n", Type: api.Integer, N: -5, Export: true}, {Name: "s", Type: api.String, S: "xy", Export: true}},
		Vars:   []api.SymVar{{Name: "a", Form: api.Set, Len: 3}, {Name: "b", Form: api.Boolean}, {Name: "t", Form: api.Char, Len: 16384}},
		Procs: []api.SymProc{{Name: "P"}, {
			Name: "Q", Result: api.Byte,
			Params: []api.SymVar{{Form: api.Integer}, {Form: api.Char, Ref: true}, {Form: api.Char, Open: true}, {Form: api.Integer, Open: true, Ref: true}},
		}},
	}
}

// shows asks for what a module shows.
func shows(t *testing.T, what string, m api.Mod, want api.Sym) {
	t.Helper()
	if s, e := Of(m); !same(s, want) || e != api.OK {
		t.Errorf("%s: %v, %v; want %v", what, s, e, want)
	}
}

// showsNothing asks for a module's refusal.
func showsNothing(t *testing.T, what string, m api.Mod) {
	t.Helper()
	if s, e := Of(m); !same(s, api.Sym{}) || e != api.ErrSymForm {
		t.Errorf("%s: %v, %v", what, s, e)
	}
}

func TestOfEverything(t *testing.T) { // P13.1
	shows(t, "the sample", sampleMod(t), sampleShown())
	shows(t, "the least", api.Mod{Name: "A"}, api.Sym{Name: "A"})
	showsNothing(t, "nothing", api.Mod{})
}

func TestOfAVariableOfEachType(t *testing.T) { // P13.1
	may := map[int]api.SymVar{
		api.Integer: {Form: api.Integer}, api.Boolean: {Form: api.Boolean}, api.Char: {Form: api.Char}, api.Byte: {Form: api.Byte}, api.Set: {Form: api.Set},
		typeSets: {Form: api.Set, Len: 3}, typeText: {Form: api.Char, Len: 16384},
	}
	for _, place := range somePlaces() {
		m := sampleMod(t)
		m.Vars[2].Type = place
		want, ok := may[place]
		if !ok {
			showsNothing(t, "a Var of "+strconv.Itoa(place), m)
			continue
		}
		s := sampleShown()
		want.Name = "b"
		s.Vars[1] = want
		shows(t, "a Var of "+strconv.Itoa(place), m, s)
	}
}

// somePlaces are those of the sample's types, and some that are none.
func somePlaces() []int {
	out := []int{math.MinInt, -1, typesEnd, typesEnd + 1, 1 << 32, math.MaxInt}
	for place := range typesEnd {
		out = append(out, place)
	}
	return out
}

func TestOfAParameterOfEachType(t *testing.T) { // P13.1
	may := map[int]api.SymVar{
		api.Integer: {Form: api.Integer}, api.Boolean: {Form: api.Boolean}, api.Char: {Form: api.Char}, api.Byte: {Form: api.Byte}, api.Set: {Form: api.Set},
		typeChars: {Form: api.Char, Open: true}, typeInts: {Form: api.Integer, Open: true},
	}
	for _, place := range somePlaces() {
		for _, ref := range []bool{false, true} {
			m := sampleMod(t)
			m.Procs[2].Vars[3] = api.Var{Name: "z", Type: place, Ref: ref}
			want, ok := may[place]
			if !ok {
				showsNothing(t, "a parameter of "+strconv.Itoa(place), m)
				continue
			}
			s := sampleShown()
			want.Ref = ref
			s.Procs[1].Params[3] = want
			shows(t, "a parameter of "+strconv.Itoa(place), m, s)
		}
	}
}

func TestOfAResultOfEachType(t *testing.T) { // P13.1
	for _, place := range somePlaces() {
		m := sampleMod(t)
		m.Procs[2].Result = place
		if place < api.NoType || place > api.Set {
			showsNothing(t, "a Result of "+strconv.Itoa(place), m)
			continue
		}
		s := sampleShown()
		s.Procs[1].Result = place
		shows(t, "a Result of "+strconv.Itoa(place), m, s)
	}
}

func TestOfHowManyParameters(t *testing.T) { // P13.1
	for n := range 13 {
		m, s := sampleMod(t), sampleShown()
		m.Procs[1].Params, m.Procs[1].Vars = n, nil
		for range n {
			m.Procs[1].Vars = append(m.Procs[1].Vars, api.Var{Name: "x", Type: api.Set})
			s.Procs[0].Params = append(s.Procs[0].Params, api.SymVar{Form: api.Set})
		}
		if n > 8 {
			showsNothing(t, "too many parameters", m)
			continue
		}
		shows(t, "parameters", m, s)
		m.Procs[1].Vars = append(m.Procs[1].Vars, api.Var{Name: "own", Type: typeRecord})
		shows(t, "parameters, and an own variable", m, s)
		m.Procs[1].Params = n + 2
		showsNothing(t, "more than there are", m)
	}
	for _, n := range []int{math.MinInt, -1, 2, 1 << 32, math.MaxInt} {
		m := sampleMod(t)
		m.Procs[1].Params = n
		m.Procs[1].Vars[0].Type = api.Char
		showsNothing(t, "no number of parameters", m)
	}
}

func TestOfLooksAtNothingThatIsNotShown(t *testing.T) { // P13.1
	m := sampleMod(t)
	for i := range 300 {
		m.Consts = append(m.Consts, api.Const{Name: "n", Type: -i, N: 1 << 40, S: strings.Repeat("x", 300)})
		m.Vars = append(m.Vars, api.Var{Name: "", Type: 9999 - i*50, Ref: true})
		m.Procs = append(m.Procs, api.Proc{Name: "P", Params: i - 100, Result: -i})
	}
	m.System, m.Imports, m.Syms, m.Strings = true, []api.Import{{Name: "M"}, {}}, []api.Sym{{}, {Name: "?"}, {}}, []string{strings.Repeat("x", 999)}
	m.Init = []api.Stat{{Op: -1, Exprs: make([]api.Expr, 3)}}
	m.Procs[1].Vars[0].Type = math.MaxInt
	m.Procs[2].Body = []api.Stat{{Op: 99}}
	for i := range m.Types {
		m.Types[i].Size = -1
	}
	m.Types[typeRecord], m.Types[typePointer].Elem = api.Type{Form: -7, Elem: -7}, 99
	shows(t, "beside what is not shown", m, sampleShown())
}

func TestOfWithOtherFieldsOfWhatIsShown(t *testing.T) { // P13.1, R2: what the chapter does not name is not shown
	m := sampleMod(t)
	m.Vars[1].Ref = true
	m.Procs[2].Vars[0].Export = true
	m.Types[api.Boolean].Len, m.Types[typeChars].Len = 7, 7
	shows(t, "a Var with Ref, a parameter with Export, a Len of what has none", m, sampleShown())
}

func TestOfTakesFormsByPlace(t *testing.T) { // P13.1: forms are those of the module's Types
	m := api.Mod{
		Name:  "A",
		Types: []api.Type{{Form: api.Set}, {Form: api.Array, Len: 2, Elem: 0}, {Form: api.Char}, {Form: api.Open, Elem: 2}, {Form: api.NoType}},
		Vars:  []api.Var{{Name: "a", Type: 0, Export: true}, {Name: "b", Type: 1, Export: true}},
		Procs: []api.Proc{
			{Name: "P", Export: true, Params: 3, Vars: []api.Var{{Type: 0}, {Type: 3}, {Type: 2}}, Result: 2},
			{Name: "Q", Export: true, Result: 4},
		},
	}
	want := api.Sym{
		Name: "A", Vars: []api.SymVar{{Name: "a", Form: api.Set}, {Name: "b", Form: api.Set, Len: 2}},
		Procs: []api.SymProc{{Name: "P", Params: []api.SymVar{{Form: api.Set}, {Form: api.Char, Open: true}, {Form: api.Char}}, Result: api.Char}, {Name: "Q"}},
	}
	shows(t, "types in another order", m, want)
	for _, elem := range []int{math.MinInt, -1, 1, 3, 4, 5, math.MaxInt} {
		for _, at := range []int{1, 3} {
			other := m
			other.Types = append([]api.Type(nil), m.Types...)
			other.Types[at].Elem = elem
			showsNothing(t, "an Elem that is not plain, or no place", other)
		}
	}
	bare := api.Mod{Name: "A", Procs: []api.Proc{{Name: "P", Export: true}}}
	shows(t, "a procedure without anything, where there are no types", bare, api.Sym{Name: "A", Procs: []api.SymProc{{Name: "P"}}})
	for place := range 3 {
		bare := api.Mod{Name: "A", Vars: []api.Var{{Name: "v", Type: place, Export: true}}}
		showsNothing(t, "a variable, where there are no types", bare)
	}
}

func TestOfWhatWouldNotBeRight(t *testing.T) { // P13.1
	for what, change := range map[string]func(m *api.Mod){
		"no NAME":                     func(m *api.Mod) { m.Name = "9" },
		"a Const without a NAME":      func(m *api.Mod) { m.Consts[1].Name = "" },
		"a Var without a NAME":        func(m *api.Mod) { m.Vars[1].Name = "a_b" },
		"a Proc without a NAME":       func(m *api.Mod) { m.Procs[1].Name = strings.Repeat("P", 21) },
		"a name twice":                func(m *api.Mod) { m.Consts[1].Name = "b" },
		"a name twice, of Procs":      func(m *api.Mod) { m.Procs[1].Name = "Q" },
		"a BYTE constant":             func(m *api.Mod) { m.Consts[1].Type = api.Byte },
		"a constant that is too much": func(m *api.Mod) { m.Consts[1].N = 1 << 31 },
		"a constant with a text":      func(m *api.Mod) { m.Consts[1].S = "s" },
		"a string with a number":      func(m *api.Mod) { m.Consts[2].N = 1 },
		"a string that is too long":   func(m *api.Mod) { m.Consts[2].S = strings.Repeat("s", 201) },
		"an array that is too long":   func(m *api.Mod) { m.Types[typeSets].Len = 4097 },
		"an array of fewer than none": func(m *api.Mod) { m.Types[typeText].Len = -1 },
		"a Const that is now shown":   func(m *api.Mod) { m.Consts[3] = api.Const{Name: "h2", Type: api.Nil, Export: true} },
		"a Proc that is now shown":    func(m *api.Mod) { m.Procs[0].Export = true },
		"a Var that is now shown":     func(m *api.Mod) { m.Vars[0].Export = true },
	} {
		m := sampleMod(t)
		change(&m)
		showsNothing(t, what, m)
	}
}

func TestOfManyThings(t *testing.T) { // P13.1
	for n := 199; n <= 201; n++ {
		consts, vars, procs := api.Mod{Name: "M"}, api.Mod{Name: "M", Types: types.Basic()}, api.Mod{Name: "M"}
		for i := range n {
			name := "x" + strconv.Itoa(i)
			consts.Consts = append(consts.Consts, api.Const{Name: name, Type: api.Set, Export: true})
			vars.Vars = append(vars.Vars, api.Var{Name: name, Type: api.Set, Export: true})
			if i >= 100 {
				procs.Procs = append(procs.Procs, api.Proc{Name: name, Export: true})
			}
		}
		for what, m := range map[string]api.Mod{"Consts": consts, "Vars": vars, "Procs": procs} {
			s, e := Of(m)
			if n > 200 {
				showsNothing(t, what, m)
			} else if e != api.OK || len(s.Consts) != len(m.Consts) || len(s.Vars) != len(m.Vars) || len(s.Procs) != len(m.Procs) {
				t.Errorf("%d %s: %v", n, what, e)
			}
		}
	}
}

func TestOfAGreatModule(t *testing.T) { // R1: thousands of procedures that share one list of parameters
	shared := make([]api.Var, 1<<20)
	for i := range shared {
		shared[i].Type = api.Char
	}
	m := api.Mod{Name: "M", Types: types.Basic(), Procs: make([]api.Proc, 1<<16)}
	for i := range m.Procs {
		m.Procs[i] = api.Proc{Name: "P", Export: true, Params: len(shared), Vars: shared}
	}
	showsNothing(t, "a great module", m)
}

const keySource = `MODULE L; CONST k* = 3 + 4; s* = "text"; hidden = 9;
TYPE R = RECORD x: INTEGER END; P = POINTER TO R;
VAR a*, b: INTEGER; t*: ARRAY 5 OF CHAR; r: R; p: P;
PROCEDURE N(x: P): P; RETURN x END N;
PROCEDURE F*(VAR x: ARRAY OF CHAR; y: BYTE): BOOLEAN; VAR i: INTEGER; BEGIN i := y; x[0] := "a" RETURN i > 3 END F;
PROCEDURE G*; END G;
BEGIN a := k; b := hidden END L.`

// checked is the module of a source.
func checked(t *testing.T, source string, syms ...api.Sym) api.Mod {
	t.Helper()
	m, at, e := check.Source(source, syms)
	if e != api.OK {
		t.Fatalf("%v at %d of %s", e, at, source)
	}
	return m
}

func TestOfWhatCheckAnswers(t *testing.T) { // P13.1, P13.5
	m := checked(t, keySource)
	want := api.Sym{
		Name:   "L",
		Consts: []api.Const{{Name: "k", Type: api.Integer, N: 7, Export: true}, {Name: "s", Type: api.String, S: "text", Export: true}},
		Vars:   []api.SymVar{{Name: "a", Form: api.Integer}, {Name: "t", Form: api.Char, Len: 5}},
		Procs: []api.SymProc{
			{Name: "F", Params: []api.SymVar{{Form: api.Char, Open: true, Ref: true}, {Form: api.Byte}}, Result: api.Boolean}, {Name: "G"},
		},
	}
	shows(t, "a module of a source", m, want)
	user := checked(t, `MODULE M; IMPORT L; VAR t*: ARRAY 5 OF CHAR; BEGIN IF L.F(t, L.k) THEN L.G END; t := L.s END M.`, want)
	shows(t, "one that imports it", user, api.Sym{Name: "M", Vars: []api.SymVar{{Name: "t", Form: api.Char, Len: 5}}})
}

func TestModulesThatShowTheSame(t *testing.T) { // P13.5
	key := func(source string) uint32 {
		t.Helper()
		s, e := Of(checked(t, source))
		if e != api.OK {
			t.Fatalf("%v of %s", e, source)
		}
		return keyOf(t, s)
	}
	want := key(keySource)
	for _, x := range [][2]string{
		{"3 + 4", "7"}, {"hidden = 9", "hidden = 10; more = {1}"}, {"x: INTEGER END;", "x, y: SET END; Q = ARRAY 7 OF SET; S = ARRAY 2 OF Q;"}, {"VAR a*, b: INTEGER", "VAR zz: SET; a*: INTEGER; b: CHAR"},
		{"(VAR x: ARRAY OF CHAR; y: BYTE)", "(VAR longer: ARRAY OF CHAR; y: BYTE)"}, {"i := y; x[0] := \"a\"", "i := 2"}, {"a := k; b := hidden", ""}, {"PROCEDURE N", "PROCEDURE H; END H; PROCEDURE N"},
	} {
		other := strings.Replace(keySource, x[0], x[1], 1)
		other = strings.Replace(other, "b := hidden", "", 1) // b may be of another type
		if strings.Contains(other, "longer") {
			other = strings.Replace(other, "x[0]", "longer[0]", 1)
		}
		if !strings.Contains(other, x[1]) || key(other) != want {
			t.Errorf("%s for %s gives another key", x[1], x[0])
		}
	}
	for _, x := range [][2]string{
		{"3 + 4", "3 + 5"}, {"hidden = 9", "hidden* = 9"}, {"a*, b:", "a*, b*:"}, {"a*, b:", "b, c*:"}, {"ARRAY 5", "ARRAY 6"}, {"\"text\"", "\"texts\""},
		{"y: BYTE", "y: INTEGER"}, {"VAR x: ARRAY OF CHAR", "VAR x: ARRAY OF CHAR; z: SET"}, {"PROCEDURE F*", "PROCEDURE F"}, {"PROCEDURE G*; END G;", "PROCEDURE G*(): CHAR; RETURN \"x\" END G;"},
	} {
		other := strings.Replace(keySource, x[0], x[1], 1)
		other = strings.Replace(other, "a := k; ", "", 1)
		if !strings.Contains(other, x[1]) || key(other) == want {
			t.Errorf("%s for %s gives the same key", x[1], x[0])
		}
	}
}

// plainOf is P13.1, said as it stands there.
func plainOf(m api.Mod) (api.Sym, bool) {
	s, ok := api.Sym{Name: m.Name}, true
	form := func(place int, may ...int) int {
		if place < 0 || place >= len(m.Types) {
			ok = false
			return 0
		}
		f := m.Types[place].Form
		for _, x := range append(may, 1, 2, 3, 4, 5) {
			if f == x {
				return f
			}
		}
		ok = false
		return 0
	}
	for _, c := range m.Consts {
		if c.Export {
			s.Consts = append(s.Consts, c)
		}
	}
	for _, v := range m.Vars {
		if !v.Export {
			continue
		}
		x := api.SymVar{Name: v.Name, Form: form(v.Type, api.Array)}
		if x.Form == api.Array {
			x.Form, x.Len = form(m.Types[v.Type].Elem), m.Types[v.Type].Len
		}
		s.Vars = append(s.Vars, x)
	}
	for _, p := range m.Procs {
		if !p.Export {
			continue
		}
		if p.Params < 0 || p.Params > len(p.Vars) {
			return api.Sym{}, false
		}
		x := api.SymProc{Name: p.Name, Result: form(p.Result, api.NoType)}
		for _, v := range p.Vars[:p.Params] {
			y := api.SymVar{Form: form(v.Type, api.Open), Ref: v.Ref}
			if y.Form == api.Open {
				y.Form, y.Open = form(m.Types[v.Type].Elem), true
			}
			x.Params = append(x.Params, y)
		}
		s.Procs = append(s.Procs, x)
	}
	return s, ok && plainRight(s)
}

// chanceMod is a module of chance over the sample's types, most of whose things may be shown.
func chanceMod(chance *rand.Rand, l []api.Type) api.Mod {
	next := 0
	name := func() string {
		if chance.Intn(40) > 0 {
			next++
		}
		return "x" + strconv.Itoa(next)
	}
	place := func(many int) int {
		if chance.Intn(25) == 0 {
			return chance.Intn(typesEnd+2) - 1
		}
		return []int{1, 2, 3, 4, 5, many, many}[chance.Intn(7)]
	}
	flip := func() bool { return chance.Intn(2) == 0 }
	m := api.Mod{Name: name(), Types: l}
	for range chance.Intn(4) {
		m.Consts = append(m.Consts, api.Const{Name: name(), Type: []int{1, 2, 3, 5, 7, 4}[chance.Intn(31)%6], N: int64(chance.Intn(20) / 19), Export: flip()})
	}
	for range chance.Intn(4) {
		m.Vars = append(m.Vars, api.Var{Name: name(), Type: place(typeSets + chance.Intn(2)), Export: flip(), Ref: flip()})
	}
	for range chance.Intn(4) {
		p := api.Proc{Name: name(), Export: flip(), Result: place(0)}
		for range chance.Intn(11) {
			p.Vars = append(p.Vars, api.Var{Name: name(), Type: place(typeChars + chance.Intn(2)), Export: flip(), Ref: flip()})
		}
		p.Params = min(chance.Intn(len(p.Vars)+1), 1+chance.Intn(9))
		if chance.Intn(30) == 0 {
			p.Params = chance.Intn(14) - 1
		}
		m.Procs = append(m.Procs, p)
	}
	return m
}

func TestOfModulesOfChance(t *testing.T) { // P13.1, P13.5
	chance := rand.New(rand.NewSource(135))
	told := map[bool]int{}
	l := sampleTypes(t)
	for range 60000 {
		m := chanceMod(chance, l)
		want, ok := plainOf(m)
		told[ok]++
		if !ok {
			showsNothing(t, "a module of chance", m)
		} else {
			shows(t, "a module of chance", m, want)
			reads(t, writes(t, want), want)
		}
		if t.Failed() {
			t.Fatalf("%+v", m)
		}
	}
	if told[true] < 10000 || told[false] < 10000 {
		t.Error(told)
	}
}
