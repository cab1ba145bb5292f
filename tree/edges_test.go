package tree

import (
	"fmt"
	"slices"
	"strings"
	"testing"
	"unsafe"

	"carrel/api"
	"carrel/scan"
)

func TestNamesBehindEnd(t *testing.T) { // P9.1
	for _, s := range []string{
		"MODULE M; END @N.", "MODULE M; END @m.", "MODULE M; END @M1.", "MODULE M1; END @M.", "MODULE M; END @N", "MODULE M; END @N;", "MODULE M; BEGIN END @N.", "MODULE M; BEGIN IF a THEN END END @N.",
		"MODULE M; PROCEDURE P; END @Q; END M.", "MODULE M; PROCEDURE P; END @M; END M.", "MODULE M; PROCEDURE P; END P; END @P.", "MODULE M; PROCEDURE P*(): T; RETURN 1 END @p; END M.",
		"MODULE M; PROCEDURE P; END P; PROCEDURE Q; BEGIN END @P; END M.", "MODULE M; PROCEDURE P; BEGIN RETURN 1 END @Q", "MODULE exactlyTwentyLetters; END @exactlyTwentyLetterz.",
	} {
		refuses(t, Module, s, api.ErrTreeName)
	}
	reads(t, Module, "MODULE M; PROCEDURE M; END M; PROCEDURE M; END M; END M.", "Module M@0(Proc M@10, Proc M@30)")
	reads(t, Module, "MODULE exactlyTwentyLetters; END exactlyTwentyLetters.", "Module exactlyTwentyLetters@0")
}

// What is met first is answered, whatever stands behind it; but a fault of a token is found ahead of all.
func TestTheFirstFaultIsMet(t *testing.T) { // P9.1, P9.2
	deep := strings.Repeat("(", 25)
	refuses(t, Module, "MODULE M; PROCEDURE P; END @Q; END; END N.", api.ErrTreeName)
	refuses(t, Module, "MODULE M; @; PROCEDURE P; END Q; END N.", api.ErrTreeToken)
	refuses(t, Module, "MODULE M; PROCEDURE P; END @Q; BEGIN a := "+deep, api.ErrTreeName)
	refusesAt(t, Module, "MODULE M; PROCEDURE P; BEGIN a := "+deep+" END Q; ;", 34+24, api.ErrTreeDeep)
	refusesAt(t, Expr, deep+"+*", 24, api.ErrTreeDeep)
	refuses(t, Expr, "((( @*"+deep, api.ErrTreeToken)
	for _, x := range []struct {
		s     string
		at    int
		fault api.Errno
	}{
		{"; ! a", 2, api.ErrScanByte}, {"MODULE M; END N. 1x", 17, api.ErrScanInt}, {"a b \"", 4, api.ErrScanStr}, {deep + " (*", 26, api.ErrScanRem},
		{") " + strings.Repeat("a", 21), 2, api.ErrScanName}, {") " + strings.Repeat(" ", 16384), 0, api.ErrScanLong}, {"a\x00", 1, api.ErrScanByte}, {"a\xff", 1, api.ErrScanByte}, {"é", 0, api.ErrScanByte},
	} {
		refusesAt(t, Module, x.s, x.at, x.fault)
		refusesAt(t, Expr, x.s, x.at, x.fault)
	}
}

// nest is a source with so many of something within one another.
func nest(ahead, begin string, n int, inner, end, behind string) string {
	return ahead + strings.Repeat(begin, n) + inner + strings.Repeat(end, n) + behind
}

// Each row opens one thing; 24 of them may be open, and the 25th is too much, at the place that is marked in it, wherever they are
// closed, and whether they are closed or not.
func TestHowMuchMayBeOpen(t *testing.T) { // P9.1, P9.2
	const statements, variable, last = "MODULE M; BEGIN ", "MODULE M; VAR v: ", "; END M."
	for _, x := range []struct {
		read                             face
		ahead, begin, inner, end, behind string
	}{
		{Expr, "", "@(", "a", ")", ""},
		{Expr, "", "a@[", "a", "]", ""},
		{Expr, "", "a@[1, ", "a", "]", ""},
		{Expr, "", "a@(", "a", ")", ""},
		{Expr, "", "a.b^@(1, ", "a", ", 2)", ""},
		{Expr, "", "@{", "a", "}", ""},
		{Expr, "", "@{1, 2..", "a", ", 3}", ""},
		{Expr, "", "@~", "a", "", ""},
		{Expr, "a = ", "@~", "a", "", "+ b"},
		{Expr, "b * ", "@~", "a", "", ""},
		{Expr, "-a + ~b < ", "@(", "a", ")", ""},
		{Module, statements, "@IF a THEN ", "", " END", last},
		{Module, statements, "@IF a THEN b ELSIF c THEN ", "", " END", last},
		{Module, statements, "@IF a THEN b ELSE ", "d", " END; e", last},
		{Module, statements, "@WHILE a DO ", "", " END", last},
		{Module, statements, "@WHILE a DO ELSIF b DO ", "", " END", last},
		{Module, statements, "@FOR i := 1 TO 2 DO ", "", " END", last},
		{Module, statements, "@REPEAT ", "", " UNTIL a", last},
		{Module, statements, "x; @REPEAT y; ", "", " UNTIL a; z", last},
		{Module, variable, "@ARRAY 1 OF ", "T", "", last},
		{Module, variable, "@RECORD a: ", "T", " END", last},
		{Module, "MODULE M; TYPE T = ", "@RECORD (B) a: T; b: ", "T", "; c, d: T END", last},
		{Module, "MODULE M; PROCEDURE P; VAR v: ", "@ARRAY 1 OF ", "T", "", "; END P; END M."},
		{Module, "MODULE M; CONST c = ", "@(", "a", ")", last},
		{Module, "MODULE M; PROCEDURE P; CONST c = ", "@(", "a", ")", "; END P; END M."},
		{Module, "MODULE M; PROCEDURE P; RETURN ", "@(", "a", ")", " END P; END M."},
		{Module, "MODULE M; PROCEDURE P; BEGIN ", "@IF a THEN ", "", " END", " RETURN ((1)) END P; END M."},
		{Module, statements + "a := ", "@(", "a", ")", last},
		{Module, statements, "a@(", "a", ")", last},
		{Module, statements, "a@[", "a", "]", " := 1" + last},
	} {
		begin := strings.Replace(x.begin, "@", "", 1)
		for _, n := range []int{1, 2, 23, 24} {
			if s := nest(x.ahead, begin, n, x.inner, x.end, x.behind); noFault(t, x.read, s) {
				agreesWithRows(t, x.read, s)
			}
		}
		for _, n := range []int{25, 26, 40} {
			at := len(x.ahead) + 24*len(begin) + strings.Index(x.begin, "@")
			refusesAt(t, x.read, nest(x.ahead, begin, n, x.inner, x.end, x.behind), at, api.ErrTreeDeep)
			refusesAt(t, x.read, nest(x.ahead, begin, n, "", "", ""), at, api.ErrTreeDeep)
		}
	}
}

func noFault(t *testing.T, read face, s string) bool {
	t.Helper()
	_, at, e := read(s)
	if at != 0 || e != api.OK {
		t.Errorf("%.600q has %v at %d", s, e, at)
	}
	return at == 0 && e == api.OK
}

// Things of all kinds count together: with 23 brackets open one more may be, and no two.
func TestWhatIsOpenTogether(t *testing.T) { // P9.1, P9.2
	brackets, closed := strings.Repeat("(", 23), strings.Repeat(")", 23)
	for _, s := range []string{"-a", "+a", "~a", "(a)", "a[1]", "a[1, 2]", "a()", "a(1)", "{}", "{1, 2..3}", "-a * b", "a + ~b", "~a.b^", "-a + b", "-a + (b)", "~a + (b)", "-a < -b", "~a & ~b", "(a) + (b)", "(a)", "a[1][2]", "a(1)(2)", "f(1)[2]"} {
		noFault(t, Expr, brackets+s+closed)
	}
	for _, s := range []string{"-@~a", "-@(a)", "~@(a)", "-a@[1]", "-a@(1)", "-@{1}", "~@~a", "~a@[1]", "~a.b@()", "(@(a))", "(@-a)", "(@~a)", "(a@[1])", "{@{}}", "{1, @-2}", "{1..@-2}", "f(@(a))", "f(a, @-1)", "f(g@())", "a[@-1]", "a[1, @-1]", "a[b@[1]]", "-a * @(b)", "-a * @~b", "-a DIV b@[1]", "+a.b & @{}"} {
		refuses(t, Expr, brackets+s+closed, api.ErrTreeDeep)
	}
	ifs, ends := strings.Repeat("IF a THEN ", 23), strings.Repeat("END ", 23)
	within := func(s string) string { return "MODULE M; BEGIN " + ifs + s + " " + ends + "END M." }
	for _, s := range []string{"a := (b)", "IF a THEN b END; IF a THEN END", "IF a THEN ELSIF b THEN ELSE c END", "REPEAT UNTIL a; REPEAT b UNTIL c", "REPEAT UNTIL a; a := -b", "a[1] := (b)", "P(1); P(2)", "FOR i := 1 TO 2 DO END", "WHILE a DO ELSIF b DO END; b := {}"} {
		noFault(t, Module, within(s))
	}
	for _, s := range []string{"IF @(a) THEN END", "IF a THEN ELSIF @(a) THEN END", "IF a THEN b@() END", "IF a THEN ELSE @IF b THEN END END", "WHILE @~a DO END", "WHILE a DO b@[1] := c END", "WHILE a DO ELSIF @{} DO END", "REPEAT UNTIL @~a", "REPEAT UNTIL f@(a)", "REPEAT a := @-b UNTIL c", "FOR i := @-1 TO 2 DO END",
		"FOR i := 1 TO @(2) DO END", "FOR i := 1 TO 2 BY @-1 DO END", "FOR i := 1 TO 2 DO @REPEAT UNTIL a END", "a[b@[1]] := 1", "a := (@(b))", "P(@-1)", "REPEAT @IF a THEN END UNTIL b"} {
		refuses(t, Module, within(s), api.ErrTreeDeep)
	}
}

func TestWhatIsOpenInTypes(t *testing.T) { // P9.1
	records, ends := strings.Repeat("RECORD a: ", 23), strings.Repeat(" END", 23)
	within := func(s string) string { return "MODULE M; VAR v: " + records + s + ends + "; END M." }
	for _, s := range []string{"ARRAY 1 OF T", "ARRAY 1 OF T; b: ARRAY 2 OF T", "RECORD END; b: RECORD END", "RECORD (B) a: T; b, c, d: POINTER TO T END", "ARRAY 1 OF POINTER TO T", "POINTER TO T", "ARRAY a OF T; b, c: ARRAY d OF T"} {
		noFault(t, Module, within(s))
	}
	for _, s := range []string{"ARRAY @(1) OF T", "ARRAY @-1 OF T", "ARRAY f@(1) OF T", "ARRAY 1@, 2 OF T", "ARRAY 1@, 2, 3 OF T", "ARRAY 1 OF @ARRAY 2 OF T", "ARRAY 1 OF @RECORD END", "RECORD a: @ARRAY 1 OF T END", "RECORD a: T; b: @RECORD END END", "RECORD (B) c: @ARRAY 1 OF T END", "ARRAY 1 OF T; b: ARRAY 1@, 2 OF T"} {
		refuses(t, Module, within(s), api.ErrTreeDeep)
	}
	lengths := func(n int) string { return strings.TrimSuffix(strings.Repeat("1,", n), ",") }
	const ahead = "MODULE M; VAR v: ARRAY "
	noFault(t, Module, ahead+lengths(24)+" OF T; w: ARRAY "+lengths(24)+" OF T; END M.")
	noFault(t, Module, ahead+lengths(23)+",f OF T; w: ARRAY (1), ~2 OF T; END M.")
	refusesAt(t, Module, ahead+lengths(25)+" OF T; END M.", len(ahead)+2*24-1, api.ErrTreeDeep)
	refusesAt(t, Module, ahead+lengths(26)+" OF T; END M.", len(ahead)+2*24-1, api.ErrTreeDeep)
	refusesAt(t, Module, ahead+lengths(24)+" OF ARRAY 1 OF T; END M.", len(ahead)+2*24-1+4, api.ErrTreeDeep)
	refusesAt(t, Module, ahead+lengths(23)+",f(1) OF T; END M.", len(ahead)+2*24-1, api.ErrTreeDeep)
	noFault(t, Module, ahead+lengths(22)+",f(1, 2), 3 OF T; END M.")
	refuses(t, Module, ahead+lengths(22)+",f(1, @(2)), 3 OF T; END M.", api.ErrTreeDeep)
	refuses(t, Module, ahead+lengths(23)+", 3 OF @RECORD END; END M.", api.ErrTreeDeep)
}

// Headings, bases and procedures open nothing, and what is closed counts no more.
func TestWhatOpensNothing(t *testing.T) { // P9.1
	deep := strings.Repeat("(", 24) + "a" + strings.Repeat(")", 24)
	noFault(t, Module, "MODULE M; PROCEDURE P(a: ARRAY OF T; VAR b: ARRAY OF T): R; CONST c = "+deep+"; VAR d: ARRAY "+strings.Repeat("(", 23)+"a"+strings.Repeat(")", 23)+" OF T; BEGIN a := "+deep+"; b := "+deep+" RETURN "+deep+" END P; END M.")
	noFault(t, Module, "MODULE M; VAR v: RECORD (B) a: "+strings.Repeat("RECORD (B) a: ", 23)+"T"+strings.Repeat(" END", 24)+"; END M.")
	var params []string
	for k := range 60 {
		params = append(params, fmt.Sprintf("VAR a%d, b: ARRAY OF T", k))
	}
	noFault(t, Module, "MODULE M; PROCEDURE P("+strings.Join(params, "; ")+"); END P; END M.")
	noFault(t, Module, "MODULE M; "+strings.Repeat("PROCEDURE P(a: ARRAY OF T); END P; ", 200)+"BEGIN a := "+deep+" END M.")
	noFault(t, Expr, "-a + "+strings.Repeat("(b) + f(c)[d] - ~e + {} + ", 100)+deep)
	noFault(t, Module, "MODULE M; BEGIN "+strings.Repeat("IF a THEN b ELSIF c THEN ELSE END; WHILE a DO END; REPEAT UNTIL -a; FOR i := -1 TO 2 BY 3 DO END; ", 100)+strings.Repeat("REPEAT ", 24)+strings.Repeat("UNTIL a ", 24)+"END M.")
	noFault(t, Module, "MODULE M; VAR "+strings.Repeat("v: ARRAY 1, 2 OF RECORD a: ARRAY 3 OF T END; ", 100)+"w: "+strings.Repeat("ARRAY 1 OF ", 24)+"T; END M.")
}

// Long sources have trees that are deep on their left, or wide.
func TestLongSources(t *testing.T) { // P9.1, P9.2
	const most = api.MaxSource
	fill := func(ahead, piece, behind string) (string, int) {
		n := (most - len(ahead) - len(behind)) / len(piece)
		return ahead + strings.Repeat(piece, n) + behind, n
	}
	for _, x := range []struct {
		piece string
		kind  int
	}{{"+a", api.NBinary}, {"*a", api.NBinary}, {".a", api.NField}, {"^", api.NDeref}, {"[1]", api.NIndex}, {"()", api.NCall}} {
		s, n := fill("a", x.piece, "")
		tree, _, e := Expr(s)
		for k := n; k > 0 && e == api.OK; k-- {
			if tree.Kind != x.kind || tree.At < len(x.piece)*(k-1)+1 || tree.At > len(x.piece)*k {
				t.Fatalf("many %q: at %d %s", x.piece, k, kinds[tree.Kind])
			}
			tree = tree.Kids[0]
		}
		if e != api.OK || told(tree) != "Name a@0" {
			t.Errorf("many %q: %v, %s", x.piece, e, told(tree))
		}
	}
	s, n := fill("a[", "1,", "1]")
	for tree, _, _ := Expr(s); n >= 0; n-- {
		if tree.Kind != api.NIndex || tree.At != 1 || tree.Kids[1].At != 2+2*n {
			t.Fatalf("index %d: %s", n, kinds[tree.Kind])
		}
		tree = tree.Kids[0]
	}
	for _, x := range []struct{ ahead, piece, behind string }{{"{", "1,", "1}"}, {"a(", "1,", "1)"}} {
		s, n := fill(x.ahead, x.piece, x.behind)
		if tree, _, e := Expr(s); e != api.OK || len(tree.Kids) < n+1 {
			t.Errorf("many in %s: %v, %d", x.ahead, e, len(tree.Kids))
		}
	}
	for _, piece := range []string{"P;", ";", "a:=1;", "IF a THEN END;"} {
		s, n := fill("MODULE M; BEGIN ", piece, "END M.")
		tree, _, e := Module(s)
		if piece == ";" {
			n = 0
		}
		if e != api.OK || len(tree.Kids) != 1 || len(tree.Kids[0].Kids) != n {
			t.Errorf("many %q: %v", piece, e)
		}
	}
	reads(t, Expr, strings.Repeat(" ", most-1)+"a", "Name a@16383")
}

// walk goes through a tree's nodes.
func walk(n api.Node, do func(api.Node)) {
	do(n)
	for _, kid := range n.Kids {
		walk(kid, do)
	}
}

const something = `MODULE M; IMPORT A, B; CONST c* = 1; d = "x"; TYPE T = RECORD (B) a, b: ARRAY 2, 3 OF CHAR; c: POINTER TO T END; VAR x, y*: ARRAY f(1) OF T;
	PROCEDURE P*(VAR a, b: T; c: ARRAY OF T): R; CONST a = {1, 2..3}; VAR v: T; BEGIN v := a[1, 2]^.b + 3 * (-4); Q(1, ~TRUE) RETURN NIL END P; PROCEDURE Q; END Q;
	BEGIN IF a = b THEN P; ELSIF c THEN Q() ELSE R END; WHILE a IN b DO P ELSIF c DO Q END; REPEAT P; Q UNTIL a; FOR i := 0 TO 41X BY 2 DO P END END M.`

// No list of an answer has memory, spare room with it, that another one has.
func TestListsShareNothing(t *testing.T) { // P9.3, R3
	n, _, e := Module(something)
	if e != api.OK {
		t.Fatal(e)
	}
	type room struct{ from, to uintptr }
	var rooms []room
	walk(n, func(n api.Node) {
		if cap(n.Kids) > 0 {
			from := uintptr(unsafe.Pointer(unsafe.SliceData(n.Kids)))
			rooms = append(rooms, room{from, from + uintptr(cap(n.Kids))*unsafe.Sizeof(n)})
		}
	})
	slices.SortFunc(rooms, func(a, b room) int { return int(int64(a.from) - int64(b.from)) })
	for k := range rooms[1:] {
		if rooms[k].to > rooms[k+1].from {
			t.Errorf("the lists at %x and %x share memory", rooms[k].from, rooms[k+1].from)
		}
	}
	if len(rooms) < 50 {
		t.Errorf("only %d lists", len(rooms))
	}
}

func TestTextsDoNotKeepTheSource(t *testing.T) { // P9.3, R3
	s := strings.Clone(something)
	begin := uintptr(unsafe.Pointer(unsafe.StringData(s)))
	n, _, _ := Module(s)
	walk(n, func(n api.Node) {
		p := uintptr(unsafe.Pointer(unsafe.StringData(n.Text)))
		if n.Text != "" && p >= begin && p < begin+uintptr(len(s)) {
			t.Errorf("the text %q is a piece of the source", n.Text)
		}
	})
}

// An answer that is spoilt, or refused, changes no later one.
func TestAnswersAreTheSameEachTime(t *testing.T) { // R2, R4
	first, _, _ := Module(something)
	want := told(first)
	var spoil func(n *api.Node)
	spoil = func(n *api.Node) {
		kids := n.Kids[:cap(n.Kids)]
		for k := range kids {
			spoil(&kids[k])
			kids[k] = api.Node{Kind: 1, Text: "spoilt"}
		}
	}
	spoil(&first)
	Module("MODULE M; BEGIN " + strings.Repeat("(", 40))
	Expr(strings.Repeat("(", 25))
	reads(t, Module, something, want)
	reads(t, Expr, "(a)", "Name a@1")
}

// Only what DOC.md's row names for a Kind is not zero.
func TestFieldsThatARowDoesNotName(t *testing.T) { // P9.3
	const texts, numbers, flags = "Module Import Const Type Ident Proc Result Named Record For Binary Unary Str Name Field", "Int Char Bool", "Const Ident Proc Param"
	seen := map[string]int{}
	look := func(n api.Node) {
		kind := kinds[n.Kind]
		seen[kind]++
		if n.Text != "" && !among(kind, texts) || n.N != 0 && !among(kind, numbers) || n.Flag && !among(kind, flags) {
			t.Errorf("%s has a field that it has not: %+v", kind, n)
		}
		if n.Text == "" && among(kind, texts) && kind != "Record" && kind != "Str" {
			t.Errorf("%s has no Text: %+v", kind, n)
		}
	}
	n, _, _ := Module(something)
	walk(n, look)
	for _, kind := range kinds[1:] {
		if seen[kind] == 0 {
			t.Errorf("no %s was seen", kind)
		}
	}
}

// agreesWithRows holds an answer's fault against the rows tried plainly.
func agreesWithRows(t *testing.T, read face, s string) {
	t.Helper()
	start := "source"
	if tokens, _, _ := scan.All(s); len(tokens) > 0 && wordOf(tokens[0]) != "MODULE" {
		start = "lone"
	}
	_, at, e := read(s)
	if want, fault := plainFault(readRows(), start, s); at != want || e != fault {
		t.Errorf("%.300q has %v at %d; want %v at %d", s, e, at, fault, want)
	}
}
