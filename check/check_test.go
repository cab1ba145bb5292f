package check

import (
	"reflect"
	"testing"

	"carrel/api"
	"carrel/tree"
)

func TestExamples(t *testing.T) { // P12.1, P12.2: the chapter's table
	for _, x := range []struct{ source, want string }{
		{"VAR a: INTEGER; BEGIN a := 1 + 2 * 3 END M.",
			"M | vars a:1 | init assign(g-1.0:1 #7:1)"},
		{`CONST c = "x"; VAR v: CHAR; BEGIN v := c END M.`,
			`M | consts c:7=0"x" | vars v:3 | init assign(g-1.0:3 #120:3)`},
		{`VAR s: ARRAY 4 OF CHAR; BEGIN s := "abc" END M.`,
			"M | strings abc | types array 4 of 3 | vars s:8 | init string(g-1.0:8 $0:7)"},
		{"TYPE P = POINTER TO R; R = RECORD n: P; x: INTEGER END; VAR p: P; BEGIN p.n.x := 1 END M.",
			"M | types pointer to 9; record(0) n:8@0 x:1@4 | vars p:8 | init assign(field4:1(deref:9(field0:8(deref:9(g-1.0:8)))) #1:1)"},
		{`PROCEDURE f(a: ARRAY OF CHAR): INTEGER; RETURN LEN(a) END f; BEGIN EMIT(CHR(f("ab"))) END M.`,
			"M | strings ab | types open of 3 | procs f(a:8):1[]{}LEN:1(l0:8) | init do(EMIT:0(CHR:3(call-1.0:1($0:7))))"},
	} {
		if got := tell(right(t, "MODULE M; "+x.source)); got != x.want {
			t.Errorf("%s: %s", x.source, got)
		}
	}
	for _, x := range []struct {
		source string
		e      api.Errno
	}{
		{`VAR s: ARRAY 4 OF CHAR; BEGIN @s := "abcd" END M.`, api.ErrCheckType},
		{"BEGIN @x := 1 END M.", api.ErrCheckName},
		{"VAR a: INTEGER; BEGIN @a := TRUE END M.", api.ErrCheckType},
		{"CONST a = 1; VAR @a: CHAR; END M.", api.ErrCheckTwice},
		{"BEGIN ABS@(1) END M.", api.ErrCheckType},
	} {
		wrong(t, "MODULE M; "+x.source, x.e)
	}
}

func TestOtherChapters(t *testing.T) { // what other chapters say of sources
	for _, s := range []string{
		`MODULE M; BEGIN EMIT("a") END M.`,
		`MODULE M; VAR a: ARRAY 3 OF INTEGER; i: INTEGER; BEGIN i := 3; EMIT("x"); a[i] := 1; EMIT("y") END M.`,
		`MODULE M; VAR c: CHAR; BEGIN REPEAT TAKE(c); EMIT(c) UNTIL c = "." END M.`,
		"MODULE M; PROCEDURE P(x: INTEGER); BEGIN P(x + 1) END P; BEGIN P(0) END M.",
		"MODULE M; VAR i: INTEGER; BEGIN FOR i := 1 TO 3 DO EMIT(CHR(i + 48)) END END M.",
		"MODULE M; VAR a: ARRAY 2 OF INTEGER; i: INTEGER; BEGIN i := 2; a[i] := 1 DIV i END M.",
		"MODULE M; BEGIN WHILE TRUE DO END END M.",
		"MODULE M; END M.",
	} {
		right(t, s)
	}
	wrong(t, "MODULE M; VAR a: ARRAY 2 OF INTEGER; i: INTEGER; BEGIN i := 2; a[i] := 1 @DIV 0 END M.", api.ErrCheckConst)
	wrongBeside(t, "MODULE M; IMPORT A; BEGIN A@.P END M.", []api.Sym{{Name: "A"}}, api.ErrCheckName)
	m := right(t, "MODULE M; TYPE R = RECORD a: CHAR END; S = RECORD (R) b: INTEGER END; END M.")
	if got := tellTypes(m.Types); got != "record(0) a:3@0; record(8) b:1@4" {
		t.Error(got)
	}
}

func TestAhead(t *testing.T) { // P12.1: a module of all parts
	m := right(t, source(""))
	for _, x := range []struct{ what, got, want string }{
		{"Types", tellTypes(m.Types), aheadTypes},
		{"Vars", tellVars(m.Vars), aheadVars},
		{"Procs", tellProcs(m.Procs), aheadProcs},
		{"Consts", tellConsts(m.Consts), aheadConsts},
	} {
		if x.got != x.want {
			t.Errorf("%s: %s", x.what, x.got)
		}
	}
	if m.Name != "M" || !m.System || len(m.Imports) != 1 || m.Imports[0] != (api.Import{Name: "L"}) || len(m.Init) != 0 || len(m.Strings) != 0 {
		t.Error(tell(m))
	}
	if !reflect.DeepEqual(m.Syms, theSyms()[1:2]) {
		t.Error(m.Syms)
	}
}

func TestNoTree(t *testing.T) { // P12.1: ErrCheckForm, 0
	name := func(s string) api.Node { return api.Node{Kind: api.NName, Text: s, At: 5} }
	withBlock := func(kids ...api.Node) api.Node {
		return api.Node{Kind: api.NModule, Text: "M", At: 3, Kids: []api.Node{{Kind: api.NBlock, Kids: kids, At: 4}}}
	}
	self := []api.Node{{Kind: api.NBlock}}
	self[0].Kids = self
	for _, n := range []api.Node{
		{}, {Kind: api.NBlock}, {Kind: -1}, {Kind: api.NModule}, {Kind: api.NModule, Text: "END"},
		{Kind: api.NModule, Text: "M", Flag: true}, {Kind: api.NModule, Text: "M", Kids: self},
		withBlock(name("x")),
		withBlock(api.Node{Kind: api.NDo}),
		withBlock(api.Node{Kind: api.NAssign, Kids: []api.Node{name("x")}}),
		withBlock(api.Node{Kind: api.NDo, Kids: []api.Node{{Kind: api.NInt}}}),
		withBlock(api.Node{Kind: api.NFor, Text: "i", Kids: []api.Node{name("x"), name("y")}}),
	} {
		if m, at, e := Module(n, theSyms()); e != api.ErrCheckForm || at != 0 || !reflect.DeepEqual(m, api.Mod{}) {
			t.Errorf("%v: %d, %v", n.Kind, at, e)
		}
	}
}

func TestPlaces(t *testing.T) { // P12.1: the place that is told is the node's At, whatever that is; what is made hangs on none
	n, _, _ := tree.Module("MODULE M; VAR a: INTEGER; BEGIN a := TRUE END M.")
	for _, at := range []int{-1 << 63, -1, 0, 7, 1<<63 - 1} {
		n.Kids[1].Kids[0].At = at
		if _, where, e := Module(n, nil); where != at || e != api.ErrCheckType {
			t.Errorf("%d: %d, %v", at, where, e)
		}
	}
}

func TestSourceIsTrees(t *testing.T) { // P12.2: tree's errors, with their places
	for _, x := range []struct {
		source string
		at     int
		e      api.Errno
	}{
		{"", 0, api.ErrTreeToken},
		{"MODULE A; END B.", 14, api.ErrTreeName},
		{"MODULE A; BEGIN x := $ END A.", 21, api.ErrScanByte},
		{"MODULE A; BEGIN x END A. ;", 25, api.ErrTreeToken},
		{"MODULE A; CONST c = 12x; END A.", 20, api.ErrScanInt},
	} {
		if m, at, e := Source(x.source, theSyms()); at != x.at || e != x.e || !reflect.DeepEqual(m, api.Mod{}) {
			t.Errorf("%s: %d, %v", x.source, at, e)
		}
	}
}
