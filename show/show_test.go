package show

import (
	"strings"
	"testing"

	"carrel/api"
	"carrel/tree"
)

// laid turns a form that is told in one line into lines: | ends one, > is a tab.
func laid(s string) string { return strings.NewReplacer("|", "\n", ">", "\t").Replace(s) }

func moduleOf(t *testing.T, s string) api.Node {
	t.Helper()
	n, at, e := tree.Module(s)
	if e != api.OK {
		t.Fatalf("%q has %v at %d", s, e, at)
	}
	return n
}

func exprOf(t *testing.T, s string) api.Node {
	t.Helper()
	n, at, e := tree.Expr(s)
	if e != api.OK {
		t.Fatalf("%q has %v at %d", s, e, at)
	}
	return n
}

// shows asks for the form of a module's source.
func shows(t *testing.T, s, want string) {
	t.Helper()
	n := moduleOf(t, s)
	if got, e := Module(n); got != laid(want) || e != api.OK || !Right(n) {
		t.Errorf("%q is shown as\n%s%v; want\n%s", s, got, e, laid(want))
	}
}

func showsExpr(t *testing.T, n api.Node, want string) {
	t.Helper()
	if got, e := Expr(n); got != want || e != api.OK {
		t.Errorf("it is %.300q, %v; want %.300q", got, e, want)
	}
}

// refuses asks for a tree that is right as nothing.
func refuses(t *testing.T, n api.Node) {
	t.Helper()
	if s, e := Module(n); s != "" || e != api.ErrShowForm || Right(n) {
		t.Errorf("%s %q is the module %.300q, %v", kindOf(n), n.Text, s, e)
	}
	refusesExpr(t, n)
}

func refusesExpr(t *testing.T, n api.Node) {
	t.Helper()
	if s, e := Expr(n); s != "" || e != api.ErrShowForm {
		t.Errorf("%s %q is the expression %.300q, %v", kindOf(n), n.Text, s, e)
	}
}

func node(kind int, text string, kids ...api.Node) api.Node {
	return api.Node{Kind: kind, Text: text, Kids: kids}
}

func number(n int64) api.Node { return api.Node{Kind: api.NInt, N: n} }

func TestTheChaptersExamples(t *testing.T) { // P10.1, P10.2
	for s, want := range map[string]string{
		"((a)+(b*c))-(d-e)": "a + b * c - (d - e)",
		"-(a+b)":            "-(a + b)", "(-a)*b": "(-a) * b", "-a*b": "-a * b", "-a+b": "-a + b", "a+(-b)": "a + (-b)", "~(a&b)": "~(a & b)", "~~a": "~~a", "(a<b)=c": "(a < b) = c",
		"p(T).x[i,j]^": "p(T).x[i][j]^", "{1,2..n}": "{1, 2..n}", "0FFFFFFFFH": "0FFFFFFFFH", "0AX": "0AX", "007": "7",
	} {
		showsExpr(t, exprOf(t, s), want)
	}
	shows(t, "MODULE M;END M.", "MODULE M;|END M.|")
	shows(t, "MODULE M;VAR a,b*:ARRAY 2,3 OF CHAR;BEGIN;IF a=b THEN;x;END END M.",
		"MODULE M;|VAR|>a, b*: ARRAY 2 OF ARRAY 3 OF CHAR;|BEGIN|>IF a = b THEN|>>x|>END|END M.|")
	refuses(t, number(1<<31))
	refuses(t, node(api.NName, "END"))
	refuses(t, node(api.NBinary, "!", number(1), number(1)))
	refuses(t, node(api.NField, "a", number(1)))
}

// The chapter's picture of the one form, with each of its parts.
func TestTheWholeForm(t *testing.T) { // P10.2
	const want = `MODULE M;|IMPORT A, B;|CONST|>a* = E;|TYPE|>T = type;|VAR|>a, b*: type;|PROCEDURE P*(VAR a, b: T; c: ARRAY OF T): R;|` +
		`>CONST|>>a = E;|>VAR|>>a, b: type;|BEGIN|>statement;|>statement|>RETURN E|END P;|BEGIN|>statement|END M.|`
	shows(t, laid(want), want)
	shows(t, strings.Join(strings.Fields(laid(want)), " "), want)
}

func TestPartsThatAreLeftOut(t *testing.T) { // P10.2
	for s, want := range map[string]string{
		"IMPORT A;":                                  "IMPORT A;|",
		"CONST TYPE VAR":                             "",
		"CONST a=1;b*=2;":                            "CONST|>a = 1;|>b* = 2;|",
		"TYPE T=U;V=W;":                              "TYPE|>T = U;|>V = W;|",
		"VAR a:T;b,c*,d:U;":                          "VAR|>a: T;|>b, c*, d: U;|",
		"CONST a=1;VAR b:T;":                         "CONST|>a = 1;|VAR|>b: T;|",
		"BEGIN":                                      "BEGIN|",
		"BEGIN;;":                                    "BEGIN|",
		"BEGIN a":                                    "BEGIN|>a|",
		"BEGIN a;;b;":                                "BEGIN|>a;|>b|",
		"PROCEDURE P;END P;":                         "PROCEDURE P;|END P;|",
		"PROCEDURE P*;END P;":                        "PROCEDURE P*;|END P;|",
		"PROCEDURE P();END P;":                       "PROCEDURE P;|END P;|",
		"PROCEDURE P*():R;END P;":                    "PROCEDURE P*(): R;|END P;|",
		"PROCEDURE P(a:T);END P;":                    "PROCEDURE P(a: T);|END P;|",
		"PROCEDURE P(VAR a:T):R;END P;":              "PROCEDURE P(VAR a: T): R;|END P;|",
		"PROCEDURE P;BEGIN END P;":                   "PROCEDURE P;|BEGIN|END P;|",
		"PROCEDURE P;RETURN 1 END P;":                "PROCEDURE P;|>RETURN 1|END P;|",
		"PROCEDURE P;BEGIN RETURN 1 END P;":          "PROCEDURE P;|BEGIN|>RETURN 1|END P;|",
		"PROCEDURE P;BEGIN a;RETURN-a END P;":        "PROCEDURE P;|BEGIN|>a|>RETURN -a|END P;|",
		"PROCEDURE P;CONST a*=1;VAR b*:T;c:U;END P;": "PROCEDURE P;|>CONST|>>a* = 1;|>VAR|>>b*: T;|>>c: U;|END P;|",
		"PROCEDURE P;VAR b:T;BEGIN a END P;PROCEDURE Q;END Q;BEGIN b":            "PROCEDURE P;|>VAR|>>b: T;|BEGIN|>a|END P;|PROCEDURE Q;|END Q;|BEGIN|>b|",
		"PROCEDURE P(a:ARRAY OF T;VAR b,c:ARRAY OF T;VAR d:U;e,f,g:V);END P;":    "PROCEDURE P(a: ARRAY OF T; VAR b, c: ARRAY OF T; VAR d: U; e, f, g: V);|END P;|",
		"IMPORT A,B,C;CONST a=1;TYPE T=U;VAR v:T;PROCEDURE P;END P;BEGIN a:=b;P": "IMPORT A, B, C;|CONST|>a = 1;|TYPE|>T = U;|VAR|>v: T;|PROCEDURE P;|END P;|BEGIN|>a := b;|>P|",
	} {
		shows(t, "MODULE M;"+s+" END M.", "MODULE M;|"+want+"END M.|")
	}
}

func TestTypes(t *testing.T) { // P10.2
	for s, want := range map[string]string{
		"T":                       "T",
		"ARRAY n+1 OF T":          "ARRAY n + 1 OF T",
		"ARRAY a<b,(c) OF T":      "ARRAY a < b OF ARRAY c OF T",
		"RECORD END":              "RECORD END",
		"RECORD(B)END":            "RECORD (B) END",
		"RECORD a:T END":          "RECORD a: T END",
		"RECORD(B)a,b:T END":      "RECORD (B) a, b: T END",
		"RECORD a,b:T;c:U END":    "RECORD a, b: T; c: U END",
		"POINTER TO T":            "POINTER TO T",
		"ARRAY 2 OF POINTER TO T": "ARRAY 2 OF POINTER TO T",
		"RECORD a:RECORD(B)END;b:ARRAY f(1) OF RECORD c:POINTER TO T END END": "RECORD a: RECORD (B) END; b: ARRAY f(1) OF RECORD c: POINTER TO T END END",
	} {
		shows(t, "MODULE M;VAR v:"+s+";END M.", "MODULE M;|VAR|>v: "+want+";|END M.|")
		shows(t, "MODULE M;TYPE v="+s+";END M.", "MODULE M;|TYPE|>v = "+want+";|END M.|")
		shows(t, "MODULE M;PROCEDURE P;VAR v:"+s+";END P;END M.", "MODULE M;|PROCEDURE P;|>VAR|>>v: "+want+";|END P;|END M.|")
	}
}

func TestStatements(t *testing.T) { // P10.2
	for s, want := range map[string]string{
		"a:=b":                                  ">a := b|",
		"a.b[i]^(T):=c<d":                       ">a.b[i]^(T) := c < d|",
		"a;b.c;d();e(1,2)":                      ">a;|>b.c;|>d();|>e(1, 2)|",
		"IF a THEN END":                         ">IF a THEN|>END|",
		"IF a THEN b;c END":                     ">IF a THEN|>>b;|>>c|>END|",
		"IF a THEN ELSE END":                    ">IF a THEN|>ELSE|>END|",
		"IF a THEN b ELSIF c THEN d ELSE e END": ">IF a THEN|>>b|>ELSIF c THEN|>>d|>ELSE|>>e|>END|",
		"IF a THEN ELSIF b THEN ELSIF c THEN d END": ">IF a THEN|>ELSIF b THEN|>ELSIF c THEN|>>d|>END|",
		"IF a THEN IF b THEN c ELSE d END;e END;f":  ">IF a THEN|>>IF b THEN|>>>c|>>ELSE|>>>d|>>END;|>>e|>END;|>f|",
		"WHILE a DO END": ">WHILE a DO|>END|",
		"WHILE a DO b ELSIF c DO d;e ELSIF f DO END;g": ">WHILE a DO|>>b|>ELSIF c DO|>>d;|>>e|>ELSIF f DO|>END;|>g|",
		"REPEAT UNTIL a":                                   ">REPEAT|>UNTIL a|",
		"REPEAT a;REPEAT b UNTIL c UNTIL d;e":              ">REPEAT|>>a;|>>REPEAT|>>>b|>>UNTIL c|>UNTIL d;|>e|",
		"FOR i:=0 TO n DO END":                             ">FOR i := 0 TO n DO|>END|",
		"FOR i:=0 TO n BY-1 DO a;b END;c":                  ">FOR i := 0 TO n BY -1 DO|>>a;|>>b|>END;|>c|",
		"FOR i:=a=b TO c=d BY e=f DO WHILE a DO b END END": ">FOR i := a = b TO c = d BY e = f DO|>>WHILE a DO|>>>b|>>END|>END|",
	} {
		shows(t, "MODULE M;BEGIN "+s+" END M.", "MODULE M;|BEGIN|"+want+"END M.|")
		shows(t, "MODULE M;PROCEDURE P;BEGIN "+s+" RETURN 1 END P;END M.", "MODULE M;|PROCEDURE P;|BEGIN|"+want+">RETURN 1|END P;|END M.|")
	}
}

func TestOperands(t *testing.T) { // P10.2
	for n, want := range map[int64]string{
		0: "0", 7: "7", 10: "10", 2147483647: "2147483647", -1: "0FFFFFFFFH", -2147483648: "080000000H", -16: "0FFFFFFF0H", -2147483647: "080000001H", -0x01234568: "0FEDCBA98H", -0x543210F0: "0ABCDEF10H",
	} {
		showsExpr(t, number(n), want)
	}
	for n, want := range map[int64]string{0: "0X", 9: "9X", 10: "0AX", 15: "0FX", 16: "10X", 0x41: "41X", 0x9F: "9FX", 0xA0: "0A0X", 255: "0FFX"} {
		showsExpr(t, api.Node{Kind: api.NChar, N: n}, want)
	}
	for _, s := range []string{`""`, `"a b"`, `" "`, `"(* END ~ '"`, "NIL", "TRUE", "FALSE", "{}", "{a}", "{a, b}", "{a..b}", "{a < b, c..d = e, {}..-1}", "a", "a.b.c", "a[i]", "a[i][j]", "a[i = j]", "a^^", "f()", "f(a)", "f(a, b < c, {})(d)^", "a[(b < c) = d]"} {
		showsExpr(t, exprOf(t, s), s)
	}
	showsExpr(t, node(api.NStr, strings.Repeat("~", 200)), `"`+strings.Repeat("~", 200)+`"`)
}

// Each operation has each other one as each of its Kids: brackets stand just where the chapter's table asks for them.
func TestBrackets(t *testing.T) { // P10.2
	a := node(api.NName, "a")
	var all []api.Node
	for _, sign := range strings.Fields(signs) {
		all = append(all, node(api.NBinary, sign, a, a))
	}
	for _, sign := range []string{"+", "-", "~"} {
		all = append(all, node(api.NUnary, sign, a))
	}
	for _, s := range []string{"1", "0X", `""`, "NIL", "TRUE", "{}", "a", "a.b", "a[i]", "a^", "f()"} {
		all = append(all, exprOf(t, s))
	}
	for _, outer := range all {
		for _, inner := range all {
			for k := range outer.Kids {
				if outer.Kind != api.NBinary && outer.Kind != api.NUnary {
					continue
				}
				n := copied(outer)
				n.Kids[k] = inner
				showsExpr(t, n, ranked(n, 0))
			}
		}
	}
	for _, s := range []string{"a - b - c", "a - (b - c)", "a < b + c", "(a < b) + c", "a * (b * c)", "a * b * c", "-(-a)", "-(~a + b) * c", "-~a", "~(-a)", "~a * ~b", "(-a) * b", "a * (-b)", "-a - (-b)", "(a = b) = (c = d)", "a = (b = c)", "~(a OR b)", "a OR b & c", "(a OR b) & c", "-a < -b", "(-a + b) DIV c", "f((a < b) < c)", "+a IN -b", "a IS b"} {
		showsExpr(t, exprOf(t, s), s)
	}
}
