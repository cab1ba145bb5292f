package show

import (
	"math/rand"
	"regexp"
	"strings"
	"testing"

	"carrel/api"
	"carrel/tree"
)

// treeOfChance is a module for even numbers, an expression for odd ones.
func treeOfChance(chance *rand.Rand, k int) api.Node {
	m := &maker{chance: chance, left: 1 + chance.Intn(60)}
	if k%2 > 0 {
		return m.expression()
	}
	return m.module(1 + chance.Intn(20))
}

// shown is the form of a tree, of a module or of an expression, and read reads such a form.
func shown(n api.Node) (string, api.Errno) {
	if n.Kind == api.NModule {
		return Module(n)
	}
	return Expr(n)
}

func read(s string) (api.Node, api.Errno) {
	if strings.HasPrefix(strings.TrimLeft(s, " \n"), "MODULE") {
		n, _, e := tree.Module(s)
		return n, e
	}
	n, _, e := tree.Expr(s)
	return n, e
}

// Trees are shown as they are plainly, and read again they are the same.
func TestTreesOfChance(t *testing.T) { // P10.1, P10.2, P10.3
	chance := rand.New(rand.NewSource(10))
	seen := map[int]int{}
	refused := 0
	for k := range 5000 {
		n := treeOfChance(chance, k)
		if !agrees(t, "chance", n) {
			refused++
			continue
		}
		walk(&n, func(one *api.Node) { seen[one.Kind]++ })
		s, _ := shown(n)
		again, e := read(s)
		if e != api.OK || !Same(n, again) || !Same(again, n) {
			t.Fatalf("%s is read otherwise: %v", s, e)
		}
	}
	for kind := api.NModule; kind <= api.NBinary; kind++ {
		if seen[kind] < 300 {
			t.Errorf("only %d of %s", seen[kind], kinds[kind])
		}
	}
	if refused < 50 || refused > 2000 {
		t.Errorf("%d have too much open", refused)
	}
}

// A tree with one node that is otherwise is right, or not, as it is plainly; if it is right, its text is the same just if it is.
func TestSpoiltTrees(t *testing.T) { // P10.1, P10.2, P10.3
	chance := rand.New(rand.NewSource(11))
	all := moduleOf(t, something)
	others := nodesOf(&all)
	right, wrong, same := 0, 0, 0
	for k := range 15000 {
		n := treeOfChance(chance, k)
		other := copied(n)
		for range 1 + chance.Intn(2) {
			spoil(chance, &other, others)
		}
		if !agrees(t, "spoilt", other) {
			wrong++
			continue
		}
		right++
		first, e := shown(n)
		second, _ := shown(other)
		if e == api.OK && Same(n, other) != (first == second) {
			t.Fatalf("the same: %v\n%s\n%s", Same(n, other), first, second)
		}
		if Same(n, other) {
			same++
		}
	}
	if right < 1000 || wrong < 4000 || same < 50 {
		t.Errorf("%d right, %d wrong, %d the same", right, wrong, same)
	}
}

var (
	assigned = regexp.MustCompile(`(:= )(\S[^\n;"]*)(;?)\n`)
	compared = regexp.MustCompile(`(IF|WHILE) ([^\n"]*) (THEN|DO)\n`)
	indexed  = regexp.MustCompile(`\]\[`)
	arrays   = regexp.MustCompile(` OF ARRAY `)
	blocks   = regexp.MustCompile(`(THEN|DO|ELSE|REPEAT|BEGIN)\n`)
)

// loosened is a form written otherwise: with brackets, commas, semicolons, blanks and remarks that the one form has not.
func loosened(chance *rand.Rand, s string) string {
	for _, x := range []struct {
		pattern *regexp.Regexp
		by      string
	}{{assigned, "$1($2)$3\n"}, {compared, "$1 (($2)) $3\n"}, {indexed, ", "}, {arrays, ", "}, {blocks, "$1 ;\n"}} {
		s = x.pattern.ReplaceAllStringFunc(s, func(one string) string {
			if chance.Intn(2) == 0 || strings.Contains(one, "FOR") || strings.Contains(one, " TO ") {
				return one
			}
			return x.pattern.ReplaceAllString(one, x.by)
		})
	}
	if !strings.Contains(s, `"`) {
		s = strings.NewReplacer("\t", []string{"", "  ", "(* \t *)"}[chance.Intn(3)], " = ", "=", "..", " .. ", ", ", ",").Replace(s)
	}
	return s
}

// What tree tells is right; shown, and read again, it is the same, and shown again the same text.
func TestWhatTreeTells(t *testing.T) { // P10.1, P10.2, P10.3
	chance := rand.New(rand.NewSource(12))
	told, otherwise := 0, 0
	for k := range 5000 {
		s, e := shown(treeOfChance(chance, k))
		if e != api.OK {
			continue
		}
		loose := loosened(chance, s)
		n, e := read(loose)
		if e != api.OK {
			continue
		}
		told++
		first, e := shown(n)
		if e != api.OK || first != s || n.Kind == api.NModule && !Right(n) {
			t.Fatalf("%v of\n%s\n%s; want\n%s", e, loose, first, s)
		}
		if loose != s {
			otherwise++
		}
		again, _ := read(first)
		if second, _ := shown(again); second != first || !Same(n, again) {
			t.Fatalf("%s\nis shown again as\n%s", first, second)
		}
	}
	if told < 3000 || otherwise < 1500 {
		t.Errorf("only %d were told, %d were written otherwise", told, otherwise)
	}
}

// Sources of which some can be read are those of tokens in any order.
func TestWhatTreeTellsOfAnyTokens(t *testing.T) { // P10.1, P10.2
	chance := rand.New(rand.NewSource(13))
	words := strings.Fields(`a b f 1 0FFH 41X "x" NIL TRUE {} + - ~ * / & = < IN IS OR DIV ( ) [ ] , . ^ .. { }`)
	told := 0
	for range 150000 {
		var b strings.Builder
		for range 1 + chance.Intn(9) {
			b.WriteString(words[chance.Intn(len(words))] + " ")
		}
		n, _, e := tree.Expr(b.String())
		if e != api.OK {
			continue
		}
		told++
		s, e := Expr(n)
		again, _, f := tree.Expr(s)
		if e != api.OK || f != api.OK || !Same(n, again) {
			t.Fatalf("%q: %v, %q, %v", b.String(), e, s, f)
		}
	}
	if told < 2500 {
		t.Errorf("only %d were told", told)
	}
}

// The longest sources have trees that are right.
func TestWhatTreeTellsOfLongSources(t *testing.T) { // P10.1, P10.2
	fill := func(ahead, piece, behind string) string {
		return ahead + strings.Repeat(piece, (api.MaxSource-len(ahead)-len(behind))/len(piece)) + behind
	}
	for _, s := range []string{
		fill("a", "^", ""), fill("a", "+a", ""), fill("a", "*a", ""), fill("a", ".a", ""), fill("a", "[1]", ""), fill("a", "()", ""), fill("a[", "1,", "1]"), fill("{", "1,", "1}"), fill("a(", "~a,", "a)"),
		fill("MODULE M;BEGIN ", "P;", "END M."), fill("MODULE M;BEGIN ", "a^;", "END M."), fill("MODULE M;BEGIN ", "a:=1;", "END M."), fill("MODULE M;BEGIN ", "IF a THEN END;", "END M."),
		fill("MODULE M;BEGIN IF a THEN ", "ELSIF a THEN ", "END END M."), fill("MODULE M;CONST ", "a=1;", "END M."), fill("MODULE M;VAR ", "a:T;", "END M."), fill("MODULE M;VAR ", "a,", "a:T;END M."), fill("MODULE M;IMPORT ", "A,", "A;END M."),
	} {
		n, e := read(s)
		if e != api.OK {
			t.Errorf("%.40q: %v", s, e)
			continue
		}
		form, e := shown(n)
		if e != api.OK || n.Kind == api.NModule && (!Right(n) || form != plainLines(n)) {
			t.Errorf("%.40q: %v, %.100q", s, e, form)
		}
		if again, e := read(form); len(form) <= api.MaxSource && (e != api.OK || !Same(n, again)) {
			t.Errorf("%.40q is read otherwise: %v", form, e)
		}
	}
}
