package show

import (
	"fmt"
	"slices"
	"strings"
	"testing"
	"unsafe"

	"carrel/api"
	"carrel/tree"
)

// something has nodes of all kinds, with each of the Kids that they may have.
const something = `MODULE M; IMPORT A, B; CONST c* = 1; d = "x"; TYPE T = RECORD (B) a, b: ARRAY 2, 3 OF CHAR; c: POINTER TO T END; U = RECORD END; VAR x, y*: ARRAY f(1) OF T; z: U;
	PROCEDURE P*(VAR a, b: T; c: ARRAY OF T): R; CONST a = {1, 2..3}; VAR v: T; BEGIN v := a[1, 2]^.b + 3 * (-4); Q(1, ~TRUE) RETURN NIL END P; PROCEDURE Q; BEGIN END Q;
	BEGIN IF a = b THEN P; ELSIF c THEN Q() ELSE R END; WHILE a IN b DO P ELSIF c DO Q END; REPEAT P; Q UNTIL a; FOR i := 0 TO 41X BY 2 DO P END; FOR i := 0 TO 1 DO END END M.`

// someExpression has nodes of all kinds that an expression may have.
const someExpression = `{a.b[1], -2..+c^} = f(~"x", 41X, NIL, TRUE) * (g() + h)`

// agrees holds what is told of a tree against what is told plainly, and answers whether the tree is right.
func agrees(t *testing.T, what string, n api.Node) bool {
	t.Helper()
	want, right := plainModule(n)
	got, e := Module(n)
	if Right(n) != right || right != (e == api.OK) || !right && (got != "" || e != api.ErrShowForm) || right && got != want {
		t.Fatalf("%s: right %v, %v\n%.2000s; want %v\n%.2000s", what, Right(n), e, got, right, want)
	}
	wantExpr, rightExpr := plainExpr(n)
	got, e = Expr(n)
	if rightExpr != (e == api.OK) || !rightExpr && (got != "" || e != api.ErrShowForm) || rightExpr && got != wantExpr {
		t.Fatalf("%s: %v, %.500q; want %v, %.500q", what, e, got, rightExpr, wantExpr)
	}
	return right || rightExpr
}

// Each node of a tree in turn is given each kind, each of several fields, and Kids of each kind at each place, or one less.
func TestEachNodeSpoilt(t *testing.T) { // P10.1, P10.2
	for _, n := range []api.Node{moduleOf(t, something), exprOf(t, someExpression)} {
		if !agrees(t, "whole", n) {
			t.Fatal("it is not right")
		}
		samples := onePerKind(t)
		for place, one := range nodesOf(&n) {
			what := fmt.Sprintf("node %d, %s %s", place, kindOf(*one), one.Text)
			was := *one
			for _, other := range samples {
				*one = other
				agrees(t, what+" is "+kindOf(other), n)
			}
			for kind := range len(kinds) + 2 {
				*one = was
				one.Kind = kind - 1
				agrees(t, what+" has another kind", n)
			}
			*one = was
			for _, one.Text = range someTexts {
				agrees(t, what+" has another Text", n)
			}
			*one = was
			for _, one.N = range someNumbers {
				agrees(t, what+" has another N", n)
			}
			*one = was
			one.Flag = !was.Flag
			agrees(t, what+" has another Flag", n)
			*one = was
			one.At = -1
			agrees(t, what+" has another place", n)
			for k := range len(was.Kids) + 1 {
				for _, other := range samples {
					one.Kids = slices.Insert(slices.Clone(was.Kids), k, other)
					agrees(t, fmt.Sprintf("%s has a Kid %s more at %d", what, kindOf(other), k), n)
				}
				if k < len(was.Kids) {
					one.Kids = slices.Delete(slices.Clone(was.Kids), k, k+1)
					agrees(t, fmt.Sprintf("%s lacks Kid %d", what, k), n)
				}
			}
			*one = was
		}
	}
}

// onePerKind are small nodes, each by itself such as its row says.
func onePerKind(t *testing.T) []api.Node {
	var all []api.Node
	n := moduleOf(t, something)
	for kind := api.NModule; kind <= api.NBinary; kind++ {
		var least *api.Node
		walk(&n, func(one *api.Node) {
			if one.Kind == kind && (least == nil || plainParts(*one) < plainParts(*least)) {
				least = one
			}
		})
		if least == nil {
			t.Fatalf("no %s", kinds[kind])
		}
		all = append(all, copied(*least))
	}
	return all
}

func TestTextsAtTheirEdges(t *testing.T) { // P10.1, P10.2
	inModule := func(s string) bool { return Right(node(api.NModule, s)) }
	inExpr := func(s string) bool {
		_, e := Expr(node(api.NName, s))
		return e == api.OK
	}
	inRecord := func(s string) bool {
		return Right(node(api.NModule, "M", node(api.NType, "T", node(api.NRecord, s))))
	}
	for s, want := range map[string]bool{
		"a": true, "Z9": true, strings.Repeat("n", 20): true, strings.Repeat("n", 21): false, "": false, "1a": false, "a ": false, "a.b": false, "a*": false, "MODULE": false, "Module": true, "é": false, "a\x00": false, "SYSTEM": true, "DIV": false,
	} {
		if inModule(s) != want || inExpr(s) != want || inRecord(s) != (want || s == "") {
			t.Errorf("the name %q: %v, %v, %v", s, inModule(s), inExpr(s), inRecord(s))
		}
	}
	for c := range 256 {
		s := string([]byte{'a', byte(c), 'b'})
		want := c >= 0x20 && c <= 0x7E && c != '"'
		if got, e := Expr(node(api.NStr, s)); want && (got != `"`+s+`"` || e != api.OK) || !want && (got != "" || e != api.ErrShowForm) {
			t.Errorf("the string %q: %q, %v", s, got, e)
		}
	}
	refuses(t, node(api.NStr, strings.Repeat("x", 201)))
	refuses(t, node(api.NStr, strings.Repeat("x", 1<<24)))
	refuses(t, node(api.NStr, "ä"))
}

func TestNumbersAtTheirEdges(t *testing.T) { // P10.1, P10.2
	for kind, most := range map[int][2]int64{api.NInt: {-1 << 31, 1<<31 - 1}, api.NChar: {0, 255}, api.NBool: {0, 1}, api.NNil: {0, 0}, api.NSet: {0, 0}} {
		for _, n := range append(someNumbers, most[0]-1, most[0], most[1], most[1]+1) {
			_, e := Expr(api.Node{Kind: kind, N: n})
			if want := most[0] <= n && n <= most[1]; want != (e == api.OK) {
				t.Errorf("%s of %d: %v", kinds[kind], n, e)
			}
		}
	}
}

func TestWhatIsNoModule(t *testing.T) { // P10.1, P10.2
	refuses(t, api.Node{})
	for _, one := range onePerKind(t) {
		if _, e := Module(one); Right(one) != (one.Kind == api.NModule) || Right(one) != (e == api.OK) {
			t.Errorf("%s as a module: %v", kindOf(one), e)
		}
		asExpr := isOneOf(kindOf(one), strings.ReplaceAll(expressions, "|", " "))
		if _, e := Expr(one); asExpr != (e == api.OK) {
			t.Errorf("%s as an expression: %v", kindOf(one), e)
		}
	}
	for _, kind := range []int{-1 << 63, -1, 0, 38, 39, 1<<63 - 1} {
		refuses(t, api.Node{Kind: kind})
		refuses(t, api.Node{Kind: kind, Text: "M"})
	}
}

// wrap is a tree about another one, so many times.
func wrap(times int, n api.Node, about func(api.Node) api.Node) api.Node {
	for range times {
		n = about(n)
	}
	return n
}

func TestWhatIsOpenInExpressions(t *testing.T) { // P10.1, P10.2
	a := node(api.NName, "a")
	set := func(all ...api.Node) api.Node { return node(api.NSet, "", all...) }
	index := func(n api.Node) api.Node { return node(api.NIndex, "", a, n) }
	unary := func(sign string, n api.Node) api.Node { return node(api.NUnary, sign, n) }
	binary := func(sign string, l, r api.Node) api.Node { return node(api.NBinary, sign, l, r) }
	for what, x := range map[string]struct {
		most, open int // so many times about a, which opens so many
		about      func(n api.Node) api.Node
	}{
		"~":       {24, 24, func(n api.Node) api.Node { return unary("~", n) }},
		"{n}":     {24, 24, func(n api.Node) api.Node { return set(n) }},
		"{a, n}":  {24, 24, func(n api.Node) api.Node { return set(a, n) }},
		"{n..a}":  {24, 24, func(n api.Node) api.Node { return set(node(api.NRange, "", n, a)) }},
		"{a..n}":  {24, 24, func(n api.Node) api.Node { return set(node(api.NRange, "", a, n)) }},
		"a(a, n)": {24, 24, func(n api.Node) api.Node { return node(api.NCall, "", a, a, n) }},
		"a[n]":    {24, 24, index},
		"a[n]^.b()": {24, 24, func(n api.Node) api.Node {
			return node(api.NCall, "", node(api.NField, "b", node(api.NDeref, "", index(n))))
		}},
		"a * a[n]":  {24, 24, func(n api.Node) api.Node { return binary("*", a, index(n)) }},
		"a[n] = a":  {24, 24, func(n api.Node) api.Node { return binary("=", index(n), a) }},
		"-a[n]":     {12, 24, func(n api.Node) api.Node { return unary("-", index(n)) }},
		"-a[n] * a": {12, 24, func(n api.Node) api.Node { return unary("+", binary("*", index(n), a)) }},
		"(-n) * a":  {12, 24, func(n api.Node) api.Node { return binary("*", unary("-", n), a) }},
		"(a+n) * a": {24, 24, func(n api.Node) api.Node { return binary("*", binary("+", a, n), a) }},
		"-(-n)":     {12, 23, func(n api.Node) api.Node { return unary("-", n) }}, // what stands outermost, or is bracketed already, has none about it
		"a + (n)":   {25, 24, func(n api.Node) api.Node { return binary("+", a, n) }},
		"a = (n)":   {25, 24, func(n api.Node) api.Node { return binary("=", a, n) }},
		"(n) = a":   {25, 24, func(n api.Node) api.Node { return binary("=", n, a) }},
		"a * (n)":   {25, 24, func(n api.Node) api.Node { return binary("MOD", a, n) }},
	} {
		most := wrap(x.most, a, x.about)
		holds(t, what, most)
		refuses(t, wrap(x.most+1, a, x.about))
		refuses(t, wrap(25-x.open, most, func(n api.Node) api.Node { return set(n) }))
		holds(t, what, wrap(24-x.open, most, func(n api.Node) api.Node { return set(n) }))
		less := wrap(x.most-1, a, x.about)
		holds(t, what, set(less, a, less))
		holds(t, what, node(api.NCall, "", a, less, set(a, a)))
	}
	left := wrap(3000, a, func(n api.Node) api.Node { return binary("-", n, a) })
	holds(t, "a - a - a", left)
	holds(t, "a^^^", wrap(3000, a, func(n api.Node) api.Node { return node(api.NDeref, "", n) }))
	holds(t, "a[a][a]", wrap(3000, a, func(n api.Node) api.Node { return node(api.NIndex, "", n, a) }))
}

// holds asks for an expression that is right, and is read again.
func holds(t *testing.T, what string, n api.Node) {
	t.Helper()
	s, e := Expr(n)
	again, _, read := tree.Expr(s)
	if e != api.OK || s != ranked(n, 0) || read != api.OK || !Same(n, again) {
		t.Errorf("%s: %v, %.200q, read %v", what, e, s, read)
	}
}

func TestWhatIsOpenInModules(t *testing.T) { // P10.1
	a, block := node(api.NName, "a"), node(api.NBlock, "")
	asBlock := func(n api.Node) api.Node { return node(api.NBlock, "", n) }
	signed := func(times int) api.Node {
		return wrap(times, a, func(n api.Node) api.Node { return node(api.NUnary, "~", n) })
	}
	assigned := func(times int) api.Node { return node(api.NAssign, "", a, signed(times)) }
	statements := map[string]func(api.Node) api.Node{
		"IF":     func(n api.Node) api.Node { return node(api.NIf, "", a, asBlock(n)) },
		"ELSIF":  func(n api.Node) api.Node { return node(api.NIf, "", a, block, a, asBlock(n)) },
		"ELSE":   func(n api.Node) api.Node { return node(api.NIf, "", a, block, asBlock(n)) },
		"WHILE":  func(n api.Node) api.Node { return node(api.NWhile, "", a, asBlock(n), a, block) },
		"REPEAT": func(n api.Node) api.Node { return node(api.NRepeat, "", asBlock(n), a) },
		"FOR":    func(n api.Node) api.Node { return node(api.NFor, "i", a, a, asBlock(n)) },
	}
	inBody := func(n api.Node) api.Node { return node(api.NModule, "M", asBlock(n)) }
	inProc := func(n api.Node) api.Node { return node(api.NModule, "M", node(api.NProc, "P", asBlock(n))) }
	for what, about := range statements {
		for _, in := range []func(api.Node) api.Node{inBody, inProc} {
			isRight(t, what, in(wrap(24, assigned(0), about)), true)
			isRight(t, what, in(wrap(25, assigned(0), about)), false)
			isRight(t, what, in(wrap(20, assigned(4), about)), true)
			isRight(t, what, in(wrap(20, assigned(5), about)), false)
		}
	}
	for what, about := range map[string]func(api.Node) api.Node{
		"IF E":      func(n api.Node) api.Node { return node(api.NIf, "", n, block) },
		"ELSIF E":   func(n api.Node) api.Node { return node(api.NIf, "", a, block, n, block) },
		"WHILE E":   func(n api.Node) api.Node { return node(api.NWhile, "", n, block) },
		"UNTIL E":   func(n api.Node) api.Node { return node(api.NRepeat, "", block, n) },
		"FOR E":     func(n api.Node) api.Node { return node(api.NFor, "i", n, a, a, block) },
		"FOR TO E":  func(n api.Node) api.Node { return node(api.NFor, "i", a, n, a, block) },
		"FOR BY E":  func(n api.Node) api.Node { return node(api.NFor, "i", a, a, n, block) },
		"a[] := 1":  func(n api.Node) api.Node { return node(api.NAssign, "", node(api.NIndex, "", a, n), a) },
		"f(E)":      func(n api.Node) api.Node { return node(api.NDo, "", node(api.NCall, "", a, n)) },
		"a.b[E]^.c": func(n api.Node) api.Node { return node(api.NDo, "", node(api.NDeref, "", node(api.NIndex, "", a, n))) },
	} {
		isRight(t, what, inBody(about(signed(23))), true)
		isRight(t, what, inBody(about(signed(24))), false)
	}
	isRight(t, "CONST", node(api.NModule, "M", node(api.NConst, "c", signed(24))), true)
	isRight(t, "CONST", node(api.NModule, "M", node(api.NConst, "c", signed(25))), false)
	isRight(t, "RETURN", node(api.NModule, "M", node(api.NProc, "P", node(api.NReturn, "", signed(24)))), true)
	isRight(t, "RETURN", node(api.NModule, "M", node(api.NProc, "P", node(api.NReturn, "", signed(25)))), false)
}

func TestWhatIsOpenInTypes(t *testing.T) { // P10.1
	a, named, ident := node(api.NName, "a"), node(api.NNamed, "T"), node(api.NIdent, "x")
	for what, about := range map[string]func(api.Node) api.Node{
		"ARRAY":      func(n api.Node) api.Node { return node(api.NArray, "", a, n) },
		"RECORD":     func(n api.Node) api.Node { return node(api.NRecord, "", node(api.NFields, "", ident, n)) },
		"RECORD (B)": func(n api.Node) api.Node { return node(api.NRecord, "B", node(api.NFields, "", ident, ident, n)) },
	} {
		length := func(times int) api.Node {
			return node(api.NArray, "", wrap(times, a, func(n api.Node) api.Node { return node(api.NUnary, "~", n) }), named)
		}
		for _, in := range []func(api.Node) api.Node{
			func(n api.Node) api.Node { return node(api.NModule, "M", node(api.NType, "T", n)) },
			func(n api.Node) api.Node { return node(api.NModule, "M", node(api.NVar, "", ident, n)) },
			func(n api.Node) api.Node {
				return node(api.NModule, "M", node(api.NProc, "P", node(api.NVar, "", ident, n)))
			},
		} {
			isRight(t, what, in(wrap(24, named, about)), true)
			isRight(t, what, in(wrap(25, named, about)), false)
			isRight(t, what, in(wrap(24, node(api.NPointer, "", named), about)), true)
			isRight(t, what, in(wrap(20, length(3), about)), true)
			isRight(t, what, in(wrap(20, length(4), about)), false)
		}
	}
}

// isRight asks whether a tree of a module is right, and whether tree reads its plain form likewise.
func isRight(t *testing.T, what string, n api.Node, want bool) {
	t.Helper()
	s, e := Module(n)
	again, _, deep := tree.Module(plainLines(n))
	if Right(n) != want || want != (e == api.OK) || want != (deep == api.OK) || want && (s != plainLines(n) || !Same(n, again)) {
		t.Errorf("%s: right %v, %v, read %v; want %v", what, Right(n), e, deep, want)
	}
}

func TestHowManyParts(t *testing.T) { // P10.1, P10.2, P10.3
	a := node(api.NName, "a")
	deref := func(n api.Node) api.Node { return node(api.NDeref, "", n) }
	minus := func(n api.Node) api.Node { return node(api.NBinary, "-", n, a) }
	wide := func(many int) api.Node { return node(api.NSet, "", slices.Repeat([]api.Node{a}, many)...) }
	calls := func(many int) api.Node {
		return node(api.NModule, "M", node(api.NBlock, "", slices.Repeat([]api.Node{node(api.NDo, "", a)}, many)...))
	}
	for what, x := range map[string]struct {
		most, more api.Node
		text       string
	}{
		"a^":    {wrap(19999, a, deref), wrap(20000, a, deref), "a" + strings.Repeat("^", 19999)},
		"a - a": {wrap(9999, a, minus), wrap(9999, deref(deref(a)), minus), "a" + strings.Repeat(" - a", 9999)},
		"{}":    {wide(19999), wide(20000), "{" + strings.Repeat("a, ", 19998) + "a}"},
	} {
		if got, e := Expr(x.most); got != x.text || e != api.OK {
			t.Errorf("%s: %v, %.40q", what, e, got)
		}
		refuses(t, x.more)
		if !Same(x.most, copied(x.most)) || Same(x.more, copied(x.more)) || Same(x.most, x.more) || Same(x.more, x.most) {
			t.Errorf("%s: not the same", what)
		}
	}
	most := calls(9999)
	got, e := Module(most)
	if got != "MODULE M;\nBEGIN\n"+strings.Repeat("\ta;\n", 9998)+"\ta\nEND M.\n" || e != api.OK || !Right(most) {
		t.Errorf("calls: %v, %d bytes", e, len(got))
	}
	refuses(t, calls(10000))
	most.Kids = slices.Insert(most.Kids, 0, node(api.NImport, "A"))
	refuses(t, most)
}

// How long the source would be is not asked.
func TestLongForms(t *testing.T) { // P10.1, P10.2
	long := node(api.NStr, strings.Repeat("x", 200))
	n := node(api.NModule, "M", node(api.NConst, "c", node(api.NSet, "", slices.Repeat([]api.Node{long}, 19997)...)))
	s, e := Module(n)
	if want := plainLines(n); s != want || e != api.OK || !Right(n) || len(s) < 4000000 {
		t.Errorf("%v, %d bytes; want %d", e, len(s), len(want))
	}
}

// Lists that have one another within, or themselves, are trees of very many parts.
func TestListsThatAreShared(t *testing.T) { // P10.1, P10.2, P10.3, R1
	a := node(api.NName, "a")
	doubled := wrap(200, a, func(n api.Node) api.Node { return node(api.NSet, "", n, n) })
	round := []api.Node{node(api.NDeref, "")}
	round[0].Kids = round
	block := node(api.NModule, "M", node(api.NBlock, ""))
	block.Kids[0].Kids = []api.Node{node(api.NIf, "", a, block.Kids[0])}
	block.Kids[0].Kids[0].Kids[1] = block.Kids[0]
	wide := node(api.NSet, "", make([]api.Node, 1<<22)...)
	for _, n := range []api.Node{doubled, round[0], block, wide} {
		refuses(t, n)
		if Same(n, n) || Same(n, a) || Same(a, n) {
			t.Errorf("%s is the same", kindOf(n))
		}
	}
	few := wrap(10, a, func(n api.Node) api.Node { return node(api.NBinary, "OR", n, n) })
	holds(t, "shared", few)
	if !Same(few, copied(few)) {
		t.Error("a tree with shared lists is not the same as one without")
	}
}

func TestSame(t *testing.T) { // P10.3
	module := moduleOf(t, something)
	for _, n := range []api.Node{module, exprOf(t, someExpression), {}, {Kind: -7, Text: "?", N: 1 << 40, Flag: true, At: 3}} {
		other := copied(n)
		if !Same(n, n) || !Same(n, other) || !Same(other, n) {
			t.Errorf("%s is not the same", kindOf(n))
		}
		for place, one := range nodesOf(&other) {
			was := *one
			one.At += 1000
			if !Same(n, other) || !Same(other, n) {
				t.Errorf("node %d has another place, and is not the same", place)
			}
			changed := []api.Node{was, was, was, was, was, was}
			changed[0].Kind++
			changed[1].Text += "x"
			changed[2].N--
			changed[3].Flag = !was.Flag
			changed[4].Kids = append(slices.Clone(was.Kids), api.Node{})
			changed[5].Kids = append([]api.Node{{}}, was.Kids...)
			if len(was.Kids) > 0 {
				lacks := was
				lacks.Kids = was.Kids[1:]
				changed = append(changed, lacks)
			}
			for k := range changed {
				*one = changed[k]
				if Same(n, other) || Same(other, n) {
					t.Errorf("node %d is otherwise (%d), and the same", place, k)
				}
			}
			*one = was
		}
	}
	if !Same(api.Node{Kids: nil}, api.Node{Kids: []api.Node{}}) {
		t.Error("no list and an empty one are not the same")
	}
	b, c := node(api.NName, "b"), node(api.NName, "c")
	if Same(node(api.NBinary, "+", b, c), node(api.NBinary, "+", c, b)) {
		t.Error("the order of Kids does not count")
	}
}

// Nothing that is handed in is changed, nor the room behind a list; answers are new and the same each time.
func TestWhatIsHandedIn(t *testing.T) { // R2, R3, R4
	n := moduleOf(t, something)
	walk(&n, func(one *api.Node) {
		roomy := append(make([]api.Node, 0, len(one.Kids)+2), one.Kids...)
		one.Kids = append(roomy, api.Node{Text: "room"}, api.Node{Text: "room"})[:len(one.Kids)]
	})
	before := deepTold(n)
	first, _ := Module(n)
	Right(n)
	Expr(n)
	Same(n, n)
	refusesExpr(t, n)
	again, e := Module(n)
	if first != again || e != api.OK || deepTold(n) != before {
		t.Error("a tree was changed, or is shown otherwise a second time")
	}
	name := node(api.NName, strings.Clone("name"))
	s, _ := Expr(name)
	if s != "name" || unsafe.StringData(s) == unsafe.StringData(name.Text) {
		t.Error("the answer is what was handed in")
	}
	empty := node(api.NSet, "")
	empty.Kids = []api.Node{}
	showsExpr(t, empty, "{}")
}

// deepTold is a tree with all its fields, and what stands in its lists' spare room.
func deepTold(n api.Node) string {
	s := fmt.Sprint(n.Kind, n.Text, n.N, n.Flag, n.At, len(n.Kids), "(")
	for _, kid := range n.Kids[:cap(n.Kids)] {
		s += deepTold(kid)
	}
	return s + ")"
}
