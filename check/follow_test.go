package check

import (
	"fmt"
	"math/rand"
	"reflect"
	"slices"
	"strings"
	"testing"

	"carrel/api"
	"carrel/show"
	"carrel/tree"
)

// sources are right ones, of many sorts of parts.
func sources() []string {
	return []string{
		source(`i := F(i) + LEN(v) * ABS(-k); IF p IS Q THEN p(Q).z := {i, 3..j} ELSE NEW(p) END; s := "abc"; T(str, "x"); FOR i := 0 TO 9 BY 2 DO w[0][i] := i END; REPEAT TAKE(c); EMIT(c) UNTIL c = "."`),
		source(`WHILE (i < L.i) & A() DO INC(i, y) ELSIF ~b OR (c >= "a") DO L.G(c, s) END; SYSTEM.PUT(SYSTEM.ADR(p^), 1); L.P; Y(p.v, r, p.next, v); X(v, rr.next^, NIL, p.s, 7); HALT`),
		inProc("d.v[LEN(n) MOD 4] := -v[3]; l := p^; Text(u)"),
		"MODULE M; IMPORT K; END M.",
		"MODULE M; TYPE P = POINTER TO R; R = RECORD n: P; x: INTEGER END; VAR p: P; BEGIN p.n.x := 1 END M.",
		"MODULE M; IMPORT SYSTEM; CONST a* = 1; b = {a, 3..5}; VAR x*: ARRAY 9 OF SET; PROCEDURE P*(VAR s: ARRAY OF CHAR; n: BYTE): BOOLEAN; VAR i: INTEGER; BEGIN FOR i := 0 TO n DO s[i] := CHR(i) END RETURN s[0] = 0X END P; BEGIN x[0] := b END M.",
	}
}

func TestPlacesChangeNothing(t *testing.T) { // what follows: what is made hangs on the tree, but for its places
	for _, s := range sources() {
		m := right(t, s)
		n, _, _ := tree.Module(s)
		text, _ := show.Module(n)
		if other, _, e := Source(text, theSyms()); e != api.OK || !reflect.DeepEqual(other, m) {
			t.Errorf("%s: written in another way it is another module: %v", brief(s), e)
		}
		moved(&n)
		if other, at, e := Module(n, theSyms()); e != api.OK || at != 0 || !reflect.DeepEqual(other, m) {
			t.Errorf("%s: at other places it is another module: %v", brief(s), e)
		}
	}
}

func moved(n *api.Node) {
	n.At = 1000 - 3*n.At
	for i := range n.Kids {
		moved(&n.Kids[i])
	}
}

func TestOtherSymsChangeNothing(t *testing.T) { // what follows: on the Syms that it imports alone
	wild := api.Sym{Name: "W", Consts: []api.Const{{Type: -1}}, Vars: make([]api.SymVar, 300), Procs: []api.SymProc{{Result: 99}}}
	for _, s := range sources() {
		m := right(t, s)
		syms := append([]api.Sym{wild, {Name: "M"}, {Name: "SYSTEM", Procs: []api.SymProc{{Name: "ADR"}}}}, theSyms()...)
		syms = append(syms, wild, api.Sym{Name: "K", Vars: wild.Vars})
		if other, _, e := Source(s, syms); e != api.OK || !reflect.DeepEqual(other, m) {
			t.Errorf("%s: beside other Syms it is another module: %v", brief(s), e)
		}
	}
}

// room is where a list lies, its spare room too.
type room struct {
	from, to uintptr
	what     string
}

func rooms(v reflect.Value, what string, l *[]room) {
	switch v.Kind() {
	case reflect.Slice:
		if size := v.Type().Elem().Size(); v.Cap() > 0 {
			*l = append(*l, room{v.Pointer(), v.Pointer() + uintptr(v.Cap())*size, what})
		}
		for i := range v.Len() {
			rooms(v.Index(i), what+"[]", l)
		}
	case reflect.Struct:
		for i := range v.NumField() {
			rooms(v.Field(i), what+"."+v.Type().Field(i).Name, l)
		}
	}
}

func TestMemory(t *testing.T) { // R3: what is handed in stays; what is answered is new memory, which no two lists share
	for _, s := range sources() {
		n, _, _ := tree.Module(s)
		syms := theSyms()
		params := append(make([]api.SymVar, 0, 9), api.SymVar{Form: api.Char})
		shared := []api.SymProc{{Name: "a", Params: params}, {Name: "b", Params: params}}
		syms[0].Procs = shared
		was, wasSyms := fmt.Sprintf("%#v", n), fmt.Sprintf("%#v", syms)
		m, _, e := Module(n, syms)
		other, _, _ := Module(n, syms)
		if e != api.OK || fmt.Sprintf("%#v", n) != was || fmt.Sprintf("%#v", syms) != wasSyms || fmt.Sprint(params[:9]) != fmt.Sprint(append([]api.SymVar{{Form: api.Char}}, make([]api.SymVar, 8)...)) {
			t.Fatalf("%s: %v, or what was handed in is written into", brief(s), e)
		}
		var l []room
		rooms(reflect.ValueOf(m), "Mod", &l)
		rooms(reflect.ValueOf(other), "other Mod", &l)
		rooms(reflect.ValueOf(n), "Node", &l)
		var given []room
		rooms(reflect.ValueOf(syms), "Syms", &given)
		given = slices.DeleteFunc(given, func(r room) bool { return strings.HasSuffix(r.what, "Params") }) // these share by themselves
		l = append(l, given...)
		l = append(l, room{reflect.ValueOf(params).Pointer(), reflect.ValueOf(params).Pointer() + 9*reflect.TypeOf(params).Elem().Size(), "Params"})
		slices.SortFunc(l, func(a, b room) int { return int(a.from) - int(b.from) })
		for i := 1; i < len(l); i++ {
			if l[i].from < l[i-1].to {
				t.Errorf("%s: %s and %s share memory", brief(s), l[i-1].what, l[i].what)
			}
		}
	}
}

func TestNilAndEmpty(t *testing.T) { // R3: nil and empty lists are one
	s := "MODULE M; IMPORT K; BEGIN K.P() END M."
	syms := []api.Sym{{Name: "K", Consts: []api.Const{}, Vars: []api.SymVar{}, Procs: []api.SymProc{{Name: "P", Params: []api.SymVar{}}}}}
	m, _, e := both(t, s, syms)
	if got := tell(m); e != api.OK || got != "M import K | init do(call0.0:0)" {
		t.Error(e, got)
	}
	n, _, _ := tree.Module(s)
	n.Kids[0].Kids = []api.Node{}
	if other, _, e := Module(n, syms); e != api.OK || tell(other) != tell(m) {
		t.Error(e)
	}
}

// changed is a tree with something changed by chance: names, numbers, signs, a part for another one.
func changed(r *rand.Rand, n api.Node, all []api.Node) api.Node {
	kids := slices.Clone(n.Kids)
	n.Kids = kids
	if r.Intn(120) == 0 {
		other := all[r.Intn(len(all))]
		if other.Kind == n.Kind || r.Intn(3) == 0 && isExpr(other.Kind) && isExpr(n.Kind) {
			return other
		}
	}
	if n.Text != "" && n.Kind != api.NModule && r.Intn(100) == 0 {
		if other := all[r.Intn(len(all))]; other.Text != "" && (n.Kind == api.NBinary) == (other.Kind == api.NBinary) && (n.Kind == api.NUnary) == (other.Kind == api.NUnary) && n.Kind != api.NStr {
			n.Text = other.Text
		}
	}
	if r.Intn(40) == 0 && (n.Kind == api.NInt || n.Kind == api.NChar) {
		n.N = int64(r.Intn(40))
	}
	for i := range kids {
		kids[i] = changed(r, kids[i], all)
	}
	return n
}

func isExpr(kind int) bool { return kind >= api.NInt && kind != api.NRange }

func nodes(n api.Node, l *[]api.Node) {
	*l = append(*l, n)
	for _, k := range n.Kids {
		nodes(k, l)
	}
}

func TestChangedTrees(t *testing.T) { // R1, R2, what follows: whatever is handed in
	r := rand.New(rand.NewSource(12))
	taken := 0
	found := map[api.Errno]int{}
	for _, s := range sources() {
		n, _, _ := tree.Module(s)
		var all []api.Node
		nodes(n, &all)
		for range 1500 {
			x := changed(r, n, all)
			m, at, e := Module(x, theSyms())
			found[e]++
			if again, at2, e2 := Module(x, theSyms()); at2 != at || e2 != e || !reflect.DeepEqual(m, again) {
				t.Fatal("not the same again")
			}
			if e == api.OK {
				taken++
				text, _ := show.Module(x)
				sound(t, text, m)
			} else if !reflect.DeepEqual(m, api.Mod{}) || e < api.ErrCheckForm || e > api.ErrCheckMany || e == api.ErrCheckForm == show.Right(x) {
				t.Errorf("%d, %v beside something", at, e)
			}
			if t.Failed() {
				return
			}
		}
	}
	for _, e := range []api.Errno{api.OK, api.ErrCheckForm, api.ErrCheckTwice, api.ErrCheckName, api.ErrCheckType, api.ErrCheckConst, api.ErrCheckArgs, api.ErrCheckVar, api.ErrCheckImport} {
		if found[e] < 5 {
			t.Errorf("chance is one-sided: %v %d times", e, found[e])
		}
	}
}

func TestGreatTrees(t *testing.T) { // R1: as deep and as wide as a tree may be, and Syms of many names
	chain := func(kind, n int, text string) api.Node {
		x := api.Node{Kind: api.NName, Text: "p"}
		for range n {
			kids := []api.Node{x}
			if kind == api.NBinary {
				kids = append(kids, api.Node{Kind: api.NName, Text: "p"})
			}
			x = api.Node{Kind: kind, Text: text, Kids: kids}
		}
		return x
	}
	module := func(of string, x api.Node) api.Node {
		n, _, _ := tree.Module("MODULE M; TYPE P = POINTER TO R; R = RECORD n: P END; VAR p: " + of + "; BEGIN p := p END M.")
		n.Kids[3].Kids[0].Kids[1] = x
		return n
	}
	for _, x := range []struct {
		n    api.Node
		want api.Errno
	}{
		{module("P", chain(api.NField, 19980, "n")), api.OK},
		{module("P", chain(api.NField, 20001, "n")), api.ErrCheckForm},
		{module("P", chain(api.NDeref, 19980, "")), api.ErrCheckType},
		{module("INTEGER", chain(api.NBinary, 9980, "+")), api.OK},
		{module("BOOLEAN", chain(api.NBinary, 9980, "+")), api.ErrCheckType},
		{module("SET", chain(api.NBinary, 9980, "*")), api.OK},
	} {
		if _, _, e := Module(x.n, nil); e != x.want {
			t.Errorf("%v; want %v", e, x.want)
		}
	}
	great := api.Sym{Name: "L"}
	for i := range 200000 {
		great.Consts = append(great.Consts, api.Const{Name: fmt.Sprint("c", i%150000), Type: api.Integer, N: int64(i)})
	}
	uses := many(700, func(i int) string { return fmt.Sprintf("i := L.c%d; ", 149999-i) })
	m, _, e := Source("MODULE M; IMPORT L; VAR i: INTEGER; BEGIN "+uses+"END M.", []api.Sym{great})
	if e != api.OK || m.Init[699].Exprs[1].N != 149300 || len(m.Syms[0].Consts) != 200000 {
		t.Error(e)
	}
}
