package gen

import (
	"fmt"
	"reflect"
	"strings"
	"testing"

	"carrel/api"
	"carrel/check"
	"carrel/sym"
	"carrel/tree"
)

// promised tells again what P15.1 says of a module's object, but for its code.
func promised(t testing.TB, m api.Mod) api.Object {
	t.Helper()
	key, e := sym.Key(shownBy(t, m))
	if e != api.OK {
		t.Fatalf("%s: %v", m.Name, e)
	}
	o := api.Object{Name: m.Name, Key: key, Imports: m.Imports, Strings: m.Strings}
	for _, p := range m.Procs {
		o.Names, o.Exports = append(o.Names, p.Name), append(o.Exports, p.Export)
	}
	for i, v := range m.Vars {
		o.Vars = append(o.Vars, m.Types[v.Type].Size)
		if o.Vars[i] == 0 {
			o.Vars[i] = 1
		}
		if v.Export {
			o.Shown = append(o.Shown, i)
		}
	}
	for at, x := range m.Types {
		if x.Form != api.Record {
			continue
		}
		d := api.Desc{Type: at, Size: x.Size}
		for base := at; base != 0; base = m.Types[base].Base {
			d.Tags = append([]int{base}, d.Tags...)
		}
		o.Descs = append(o.Descs, d)
	}
	return o
}

// hasWhatIsPromised holds an object against that; nil and empty lists are one.
func hasWhatIsPromised(t testing.TB, m api.Mod, o api.Object) {
	t.Helper()
	want := promised(t, m)
	if len(o.Procs) != len(m.Procs) {
		t.Errorf("%s: %d procedures", m.Name, len(o.Procs))
	}
	want.Code, want.Fixes, want.Procs, want.Init = o.Code, o.Fixes, o.Procs, o.Init
	if got, want := fmt.Sprintf("%v", o), fmt.Sprintf("%v", want); got != want {
		t.Errorf("%s: %s; want %s", m.Name, brief(got), brief(want))
	}
}

func TestExamples(t *testing.T) { // P15.1, P15.3: the chapter's table
	for _, x := range []struct {
		s, input string
		vars     []int
		descs    []api.Desc
		out      string
		end      api.End
	}{
		{"MODULE M; END M.", "", nil, nil, "", halt()},
		{`MODULE M; VAR c: CHAR; BEGIN EMIT("a"); TAKE(c); EMIT(c) END M.`, "xy", []int{1}, nil, "ax", halt()},
		{"MODULE M; VAR a: ARRAY 3 OF INTEGER; i: INTEGER; BEGIN i := 3; a[i] := 1 END M.", "", []int{12, 4}, nil, "", trapped(api.TrapIndex)},
		{"MODULE M; TYPE R = RECORD a: CHAR END; S = RECORD (R) b: INTEGER END; END M.", "", nil,
			[]api.Desc{{Type: 8, Size: 4, Tags: []int{8}}, {Type: 9, Size: 8, Tags: []int{8, 9}}}, "", halt()},
	} {
		m := checked(t, x.s)
		o := object(t, m)
		if o.Name != "M" || len(o.Imports)+len(o.Procs)+len(o.Names)+len(o.Exports)+len(o.Shown)+len(o.Strings) != 0 || len(o.Vars) != len(x.vars) || len(o.Descs) != len(x.descs) {
			t.Errorf("%s: %v", x.s, o)
			continue
		}
		for i, n := range x.vars {
			if o.Vars[i] != n {
				t.Errorf("%s: %v", x.s, o.Vars)
			}
		}
		for i, d := range x.descs {
			if !reflect.DeepEqual(o.Descs[i], d) {
				t.Errorf("%s: %v", x.s, o.Descs)
			}
		}
		does(t, x.s, []api.Mod{m}, x.input, x.out, x.end)
	}
}

func TestExamplesOfTheWhole(t *testing.T) { // DOC.md's first four
	for _, x := range []struct {
		s, input, out string
		end           api.End
	}{
		{`MODULE M; BEGIN EMIT("a") END M.`, "", "a", halt()},
		{`MODULE M; VAR a: ARRAY 3 OF INTEGER; i: INTEGER; BEGIN i := 3; EMIT("x"); a[i] := 1; EMIT("y") END M.`, "", "x", trapped(api.TrapIndex)},
		{`MODULE M; VAR c: CHAR; BEGIN REPEAT TAKE(c); EMIT(c) UNTIL c = "." END M.`, "ab", "ab", wait()},
		{`MODULE M; VAR c: CHAR; BEGIN REPEAT TAKE(c); EMIT(c) UNTIL c = "." END M.`, "a.b", "a.", halt()},
		{`MODULE M; PROCEDURE P(x: INTEGER); BEGIN P(x + 1) END P; BEGIN P(0) END M.`, "", "", trapped(api.TrapStack)},
	} {
		does(t, x.s, []api.Mod{checked(t, x.s)}, x.input, x.out, x.end)
	}
}

func TestObjectOfMany(t *testing.T) { // P15.1: each list, in order
	l := checked(t, library)
	a := checked(t, "MODULE A; VAR x*: SET; END A.")
	m := checked(t, `MODULE M; IMPORT A, SYSTEM, L;
		CONST c* = 5; hidden = "never needed"; s* = "shown";
		TYPE Z = RECORD END; A1 = ARRAY 3 OF Z; R = RECORD (Z) a: CHAR; b: ARRAY 5 OF CHAR END; P = POINTER TO S; S = RECORD (R) n: P END; T = RECORD (S) END; X = RECORD x: T END;
		VAR z: Z; a1: A1; x: X; i*: INTEGER; y: BYTE; p: P; v*: ARRAY 7 OF BYTE; t: ARRAY 3 OF ARRAY 5 OF CHAR; c2*: CHAR;
		PROCEDURE One; BEGIN L.Say("one") END One;
		PROCEDURE Two*(x: INTEGER; VAR a: ARRAY OF CHAR): CHAR; BEGIN a := "two"; L.Say("one") RETURN "x" END Two;
		PROCEDURE Three*; END Three;
		BEGIN L.Say("three") END M.`, l, a)
	o := object(t, m)
	hasWhatIsPromised(t, m, o)
	key, _ := sym.Key(shownBy(t, m))
	keyOfA, _ := sym.Key(shownBy(t, a))
	keyOfL, _ := sym.Key(shownBy(t, l))
	want := api.Object{Name: "M", Key: key, Imports: []api.Import{{Name: "A", Key: keyOfA}, {Name: "L", Key: keyOfL}},
		Names: []string{"One", "Two", "Three"}, Exports: []bool{false, true, true},
		Vars: []int{1, 1, 12, 4, 1, 4, 7, 15, 1}, Shown: []int{3, 6, 8}, Strings: []string{"one", "two", "three"},
		Code: o.Code, Procs: o.Procs, Init: o.Init, Fixes: o.Fixes}
	for _, d := range o.Descs {
		want.Descs = append(want.Descs, d)
		if m.Types[d.Type].Form != api.Record {
			t.Errorf("%v is no record's", d)
		}
	}
	if fmt.Sprintf("%v", o) != fmt.Sprintf("%v", want) {
		t.Errorf("%v; want %v", o, want)
	}
	var sizes, levels []int
	for _, d := range o.Descs {
		sizes, levels = append(sizes, d.Size), append(levels, len(d.Tags)-1)
	}
	if fmt.Sprint(sizes, levels) != "[0 8 12 12 12] [0 1 2 3 0]" {
		t.Errorf("%v %v", sizes, levels)
	}
	if o.Procs[0] == o.Procs[1] || o.Procs[1] == o.Procs[2] || o.Init == o.Procs[0] {
		t.Errorf("%v %d", o.Procs, o.Init)
	}
}

func TestKeys(t *testing.T) { // P15.1: any Key of an import stays, and makes no difference to the code
	l := checked(t, library)
	m := checked(t, "MODULE M; IMPORT L; BEGIN L.Set(1) END M.", l)
	first := object(t, m)
	for _, key := range []uint32{0, 1, 1<<32 - 1} {
		m.Imports = []api.Import{{Name: "L", Key: key}}
		o := object(t, m)
		if o.Imports[0] != m.Imports[0] {
			t.Errorf("%v", o.Imports)
		}
		o.Imports = first.Imports
		if !reflect.DeepEqual(o, first) {
			t.Errorf("with the Key %d: %v; want %v", key, o, first)
		}
	}
	same := object(t, checked(t, "MODULE A; VAR x*: INTEGER; i: SET; BEGIN x := 1 END A."))
	other := object(t, checked(t, "MODULE A; VAR x*: INTEGER; END A."))
	third := object(t, checked(t, "MODULE A; VAR x*: SET; END A."))
	if same.Key != other.Key || other.Key == third.Key {
		t.Errorf("%X %X %X", same.Key, other.Key, third.Key)
	}
}

// mostOfAll has as much of everything as check takes.
func mostOfAll() string {
	var b strings.Builder
	b.WriteString("MODULE M; TYPE ")
	for i := range api.MaxTypes - 8 {
		fmt.Fprintf(&b, "R%d = RECORD END; ", i)
	}
	b.WriteString("VAR ")
	for i := range api.MaxVars {
		fmt.Fprintf(&b, "v%d*: CHAR; ", i)
	}
	for i := range api.MaxProcs {
		fmt.Fprintf(&b, "PROCEDURE p%d*; END p%d; ", i, i)
	}
	b.WriteString(" END M.")
	return b.String()
}

func TestMostOfAll(t *testing.T) { // P15.1
	s := mostOfAll()
	m := checked(t, s)
	o := object(t, m)
	hasWhatIsPromised(t, m, o)
	if len(o.Procs) != api.MaxProcs || len(o.Vars) != api.MaxVars || len(o.Shown) != api.MaxVars || len(o.Descs) != api.MaxTypes-8 {
		t.Errorf("%d %d %d %d", len(o.Procs), len(o.Vars), len(o.Shown), len(o.Descs))
	}
	var calls, sets strings.Builder
	for i := range api.MaxProcs {
		fmt.Fprintf(&calls, "M.p%d; ", i)
	}
	for i := range api.MaxVars {
		fmt.Fprintf(&sets, "IF M.v%d # 0X THEN HALT END; ", i)
	}
	does(t, "all of it", []api.Mod{m, checked(t, "MODULE N; IMPORT M; BEGIN "+calls.String()+sets.String()+" EMIT(\"k\") END N.", m)}, "", "k", halt())
	var strs strings.Builder
	for i := range api.MaxVars {
		fmt.Fprintf(&strs, "L.Say(\"%d\"); ", i)
	}
	l := checked(t, library)
	n := checked(t, "MODULE M; IMPORT L; BEGIN "+strs.String()+" END M.", l)
	o = object(t, n)
	hasWhatIsPromised(t, n, o)
	if len(o.Strings) != api.MaxVars || o.Strings[199] != "199" {
		t.Errorf("%v", o.Strings)
	}
}

func TestMoreThanAModuleMayShow(t *testing.T) { // P15.1: symbols may be imported of which there is no module
	s := api.Sym{Name: "A"}
	for i := range 300 {
		s.Vars = append(s.Vars, api.SymVar{Name: fmt.Sprintf("v%d", i), Form: api.Integer})
		s.Procs = append(s.Procs, api.SymProc{Name: fmt.Sprintf("p%d", i), Params: []api.SymVar{{Form: api.Char}}})
	}
	m, at, e := check.Source(`MODULE M; IMPORT A; VAR i: INTEGER; BEGIN i := A.v0 + A.v199 + A.v200 + A.v299; A.p0("a"); A.p99("b"); A.p100("c"); A.p299("d") END M.`, []api.Sym{s})
	if e != api.OK {
		t.Fatal(at, e)
	}
	hasWhatIsPromised(t, m, object(t, m))
}

func TestNoModule(t *testing.T) { // P15.2: what is right of none is refused, with nothing beside it
	m := checked(t, "MODULE M; VAR x*: INTEGER; BEGIN x := 1 END M.")
	for i, change := range []func(m *api.Mod){
		func(m *api.Mod) { *m = api.Mod{} },
		func(m *api.Mod) { m.Name = "" },
		func(m *api.Mod) { m.Name = "1" },
		func(m *api.Mod) { m.Types = nil },
		func(m *api.Mod) { m.Types = m.Types[:7] },
		func(m *api.Mod) { m.Vars = []api.Var{{Name: "x", Type: 99}} },
		func(m *api.Mod) { m.Vars = []api.Var{{Name: "x", Type: -1}} },
		func(m *api.Mod) { m.Vars = []api.Var{{Name: "x", Type: 8, Export: true}} },
		func(m *api.Mod) { m.Vars = make([]api.Var, 201) },
		func(m *api.Mod) { m.Imports = []api.Import{{Name: "M"}} },
		func(m *api.Mod) { m.Imports = []api.Import{{Name: "a b"}} },
		func(m *api.Mod) { m.Imports = make([]api.Import, 17) },
		func(m *api.Mod) { m.Strings = []string{strings.Repeat("x", 201)} },
		func(m *api.Mod) { m.Strings = make([]string, 201) },
		func(m *api.Mod) { m.Procs = make([]api.Proc, 101) },
		func(m *api.Mod) { m.Procs = []api.Proc{{Name: "P"}, {Name: "P"}} },
		func(m *api.Mod) { m.Procs = []api.Proc{{Name: "P", Params: 1}} },
		func(m *api.Mod) { m.Procs = []api.Proc{{Name: "P", Params: -1}} },
		func(m *api.Mod) { m.Procs = []api.Proc{{Name: "P", Vars: []api.Var{{Type: 99}}}} },
		func(m *api.Mod) { m.Procs = []api.Proc{{Name: "P", Vars: []api.Var{{Type: api.NoType}}}} },
		func(m *api.Mod) { m.Init = []api.Stat{{}} },
		func(m *api.Mod) { m.Init = []api.Stat{{Op: 8}} },
		func(m *api.Mod) { m.Init = []api.Stat{{Op: api.SAssign}} },
		func(m *api.Mod) { m.Init = []api.Stat{{Op: api.SCall, Exprs: []api.Expr{{}}}} },
		func(m *api.Mod) {
			m.Init = []api.Stat{{Op: api.SCall, Exprs: []api.Expr{{Op: api.EStd, N: api.StdCall + 1}}}}
		},
		func(m *api.Mod) {
			m.Init = []api.Stat{{Op: api.SCall, Exprs: []api.Expr{{Op: api.EStd, N: 0}}}}
		},
		func(m *api.Mod) {
			m.Init = []api.Stat{{Op: api.SCall, Exprs: []api.Expr{{Op: api.ECall, M: 0, N: 0}}}}
		},
		func(m *api.Mod) {
			m.Init = []api.Stat{{Op: api.SCall, Exprs: []api.Expr{{Op: api.ECall, M: -1, N: 0}}}}
		},
	} {
		other := m
		change(&other)
		if o, e := Module(other); e != api.ErrGenForm || !reflect.DeepEqual(o, api.Object{}) {
			t.Errorf("%d: %v, %v", i, o, e)
		}
	}
}

// longSource has much code for few bytes: so many calls while all registers are in use; and calls that are one word each.
func longSource(calls, words int) string {
	return "MODULE M;VAR i:INTEGER;PROCEDURE g;END g;PROCEDURE f():INTEGER;RETURN 1 END f;BEGIN i:=1+i*(i+i*(i+i*(i+i*(i+i*(i" +
		strings.Repeat("+f()", calls) + ")))));" + strings.Repeat("g;", words) + " END M."
}

func TestTooLong(t *testing.T) { // P15.1: ErrGenLong just behind 65536 words
	const calls = 2200
	short := object(t, checked(t, longSource(calls, 0)))
	left := api.MaxCode - len(short.Code)
	if left < 0 || left > 3000 {
		t.Fatalf("%d words are left", left)
	}
	for _, n := range []int{left - 1, left} {
		m := checked(t, longSource(calls, n))
		o := object(t, m)
		hasWhatIsPromised(t, m, o)
		if len(o.Code) != len(short.Code)+n {
			t.Errorf("%d words, %d more than %d", len(o.Code), n, len(short.Code))
		}
	}
	for _, n := range []int{left + 1, left + 2, left + 100} {
		if o, e := Module(checked(t, longSource(calls, n))); e != api.ErrGenLong || !reflect.DeepEqual(o, api.Object{}) {
			t.Errorf("%d more than %d: %v, %v", n, len(short.Code), o.Name, e)
		}
	}
	if o, e := Module(checked(t, longSource(3900, 0))); e != api.ErrGenLong || !reflect.DeepEqual(o, api.Object{}) {
		t.Errorf("%v, %v", o.Name, e)
	}
	if got := agrees(t, "as long as may be", []api.Mod{checked(t, longSource(calls, left))}, "", much); got.end != halt() {
		t.Errorf("%v", got)
	}
}

func TestShortSourcesFit(t *testing.T) { // P15.1: a source of at most 4096 bytes is never too long
	for _, s := range []string{"i:=i;", "a:=b;", "r:=q;", "f;", "i:=f()+f();", "s:={i,i..i};", "p.p.p.p:=p.p;", "b[i][i]:=b[i][i];", "INC(b[i][i],i);", "b[0]:=b[i];"} {
		head := "MODULE M;TYPE P=POINTER TO R;R=RECORD p:P END;VAR i:INTEGER;s:SET;p:P;r,q:R;a,b:ARRAY 3 OF ARRAY 3 OF INTEGER;"
		if s == "f;" {
			head += "PROCEDURE f;END f;"
		} else {
			head += "PROCEDURE f():INTEGER;RETURN 1 END f;"
		}
		head += "BEGIN "
		source := head + strings.Repeat(s, (4096-len(head)-len(" END M."))/len(s)) + " END M."
		if o := object(t, checked(t, source)); len(o.Code) > api.MaxCode/2 {
			t.Errorf("%s: %d words", s, len(o.Code))
		}
	}
	source := longSource(950, 0)
	if len(source) > 4096 {
		t.Fatal(len(source))
	}
	if o := object(t, checked(t, source)); len(o.Code) < 20000 {
		t.Errorf("%d words: not much of %d bytes", len(o.Code), len(source))
	}
}

func TestTheSameAgain(t *testing.T) { // P15.4
	mods := behind(t, `s := "abc"; v[1] := 3; NEW(p); p^ := r; L.Up(i, s); L.Say(s); e := {i, 3..j}; FOR i := 0 TO j DO w[i] := v END; ASSERT((p IS Q) OR b)`)
	m := mods[1]
	m.Imports = append(append(make([]api.Import, 0, 9), m.Imports...), api.Import{Name: "kept"})[:1]
	m.Strings = append(append(make([]string, 0, 9), m.Strings...), "kept")[:len(m.Strings)]
	was := fmt.Sprintf("%#v", m)
	first := object(t, m)
	told := fmt.Sprintf("%#v", first)
	second := object(t, m)
	if !reflect.DeepEqual(first, second) {
		t.Error("another object")
	}
	spoil(&second)
	if fmt.Sprintf("%#v", first) != told {
		t.Error("two answers share memory")
	}
	spoil(&first)
	if fmt.Sprintf("%#v", m) != was || m.Imports[:2][1].Name != "kept" || m.Strings[:len(m.Strings)+1][len(m.Strings)] != "kept" {
		t.Error("an answer shares memory with what was handed in")
	}
	if third := object(t, m); fmt.Sprintf("%#v", third) != told {
		t.Error("another object, once an answer was written into")
	}
}

// spoil writes into all of an object's lists, and into their spare room.
func spoil(o *api.Object) {
	for i := range o.Descs {
		tags := o.Descs[i].Tags
		for k := range tags[:cap(tags)] {
			tags[:cap(tags)][k] = 77
		}
	}
	fill(o.Imports, api.Import{Name: "spoilt"})
	fill(o.Code, 77)
	fill(o.Procs, 77)
	fill(o.Names, "spoilt")
	fill(o.Exports, true)
	fill(o.Vars, 77)
	fill(o.Shown, 77)
	fill(o.Strings, "spoilt")
	fill(o.Descs, api.Desc{Type: 77})
	fill(o.Fixes, api.Fix{At: 77})
}

func fill[T any](l []T, with T) {
	l = l[:cap(l)]
	for i := range l {
		l[i] = with
	}
}

func TestTreesThatNoSourceHas(t *testing.T) { // P15.1: check.Module takes them as well
	n, _, e := tree.Module("MODULE M; VAR i: INTEGER; BEGIN i := 1 END M.")
	if e != api.OK {
		t.Fatal(e)
	}
	block := &n.Kids[len(n.Kids)-1]
	x := api.Node{Kind: api.NName, Text: "i"}
	for range 6000 {
		x = api.Node{Kind: api.NBinary, Text: "+", Kids: []api.Node{x, {Kind: api.NName, Text: "i"}}}
	}
	block.Kids[0].Kids[1] = x
	m, at, e := check.Module(n, nil)
	if e != api.OK {
		t.Fatal(at, e)
	}
	hasWhatIsPromised(t, m, object(t, m))
	if got := agrees(t, "a long sum", []api.Mod{m}, "", much); got.end != halt() {
		t.Errorf("%v", got)
	}
}
