package tree

import (
	"fmt"
	"math/rand"
	"slices"
	"strings"
	"testing"

	"carrel/api"
	"carrel/scan"
)

// vocabulary is each keyword, each sign, and tokens of all other kinds, some of them with the text of a keyword or a sign.
var vocabulary = strings.Fields(`a M 7 41X "" "END" "+" "a" ";"
	ARRAY BEGIN BY CONST DIV DO ELSE ELSIF END FALSE FOR IF IMPORT IN IS MOD MODULE NIL OF OR POINTER PROCEDURE RECORD REPEAT RETURN THEN TO TRUE TYPE UNTIL VAR WHILE
	+ - * / ~ & . .. , ; | ( ) [ ] { } := : ^ = # < <= > >=`)

func anyWord(chance *rand.Rand) string { return vocabulary[chance.Intn(len(vocabulary))] }

func anyName(chance *rand.Rand) string { return []string{"a", "M", "P"}[chance.Intn(3)] }

// written are tokens as a source, with a blank between each two.
func written(tokens []api.Token) string {
	var words []string
	for _, token := range tokens {
		switch {
		case token.Kind == api.TokInt:
			words = append(words, fmt.Sprintf("0%XH", uint32(token.N)))
		case token.Kind == api.TokChar:
			words = append(words, fmt.Sprintf("0%XX", token.N))
		case token.Kind == api.TokStr:
			words = append(words, `"`+token.Text+`"`)
		default:
			words = append(words, token.Text)
		}
	}
	return strings.Join(words, " ")
}

// levels is how many nodes of a tree stand within one another.
func levels(n api.Node) int {
	most := 0
	for _, kid := range n.Kids {
		most = max(most, levels(kid))
	}
	return most + 1
}

// What is made first, and then written, is read as it was made, with all places.
func TestTreesOfChance(t *testing.T) { // P9.1, P9.2, P9.3
	chance := rand.New(rand.NewSource(9))
	kindsSeen, deep := map[int]int{}, 0
	for k := range 6000 {
		read, make := Module, moduleOfChance
		if k%2 > 0 {
			read, make = Expr, exprOfChance
		}
		s, _, n := make(t, chance, 1+chance.Intn(30))
		reads(t, read, s, told(n))
		walk(n, func(n api.Node) { kindsSeen[n.Kind]++ })
		deep = max(deep, levels(n))
		if t.Failed() {
			return
		}
	}
	for kind := api.NModule; kind <= api.NBinary; kind++ {
		if kindsSeen[kind] < 500 {
			t.Errorf("only %d of %s: chance does not try enough", kindsSeen[kind], kinds[kind])
		}
	}
	if deep < 20 {
		t.Errorf("no tree is deeper than %d", deep)
	}
}

// At each token of a source each word may stand, or can't, as the rows say.
func TestEachWordAtEachToken(t *testing.T) { // P9.1, P9.2, P9.5
	all := readRows()
	try := func(read face, start string, tokens []api.Token) {
		_, asked := plainBad(all, start, tokens)
		for k := range tokens {
			ahead := written(tokens[:k]) + " "
			for _, word := range vocabulary {
				one, _, _ := scan.All(word)
				_, at, e := read(ahead + word)
				refused := e == api.ErrTreeToken && at == len(ahead)
				if refused == asked[k][wordOf(one[0])] {
					t.Fatalf("%q: %v at %d", ahead+word, e, at)
				}
			}
		}
	}
	tokens, _, _ := scan.All(something)
	try(Module, "source", tokens)
	chance := rand.New(rand.NewSource(90))
	for range 6 {
		_, tokens, _ := moduleOfChance(t, chance, 2)
		try(Module, "source", tokens)
		_, tokens, _ = exprOfChance(t, chance, 30)
		try(Expr, "lone", tokens)
	}
}

// spoilt is a row of tokens, but for their end, with some of them left out, put in, turned round, written twice, or called otherwise.
func spoilt(chance *rand.Rand, tokens []api.Token) []api.Token {
	tokens = slices.Clone(tokens[:len(tokens)-1])
	for range 1 + chance.Intn(2) {
		if len(tokens) < 2 {
			return tokens
		}
		k := chance.Intn(len(tokens) - 1)
		other, _, _ := scan.All(anyWord(chance))
		switch chance.Intn(7) {
		case 0:
			tokens = slices.Delete(tokens, k, k+1)
		case 1:
			tokens = slices.Insert(tokens, k, other[0])
		case 2:
			tokens[k] = other[0]
		case 3:
			tokens[k], tokens[k+1] = tokens[k+1], tokens[k]
		case 4:
			from := chance.Intn(len(tokens))
			tokens = slices.Insert(tokens, k, slices.Clone(tokens[from:min(len(tokens), from+1+chance.Intn(4))])...)
		case 5:
			tokens = tokens[:k]
		case 6:
			names := slices.IndexFunc(tokens[k:], func(token api.Token) bool { return token.Kind == api.TokName })
			if names >= 0 {
				tokens[k+names].Text = anyName(chance)
			}
		}
	}
	return tokens
}

func TestSpoiltSources(t *testing.T) { // P9.1, P9.2
	all := readRows()
	chance := rand.New(rand.NewSource(91))
	seen := map[api.Errno]int{}
	for k := range 5000 {
		read, make, start := Module, moduleOfChance, "source"
		if k%4 == 0 {
			read, make, start = Expr, exprOfChance, "lone"
		}
		_, tokens, _ := make(t, chance, 1+chance.Intn(5))
		s := written(spoilt(chance, tokens))
		n, at, e := read(s)
		want, fault := plainFault(all, start, s)
		if at != want || e != fault || e != api.OK && !isNone(n) {
			t.Fatalf("%q: %v at %d; want %v at %d", s, e, at, fault, want)
		}
		seen[e]++
	}
	for _, e := range []api.Errno{api.OK, api.ErrTreeToken, api.ErrTreeName} {
		if seen[e] < 50 {
			t.Errorf("%d sources of %v: chance does not try enough", seen[e], e)
		}
	}
}

// wraps are expressions about the name here.
var wraps = []string{"(here)", "~here", "~here & b", "a[here]", "a(1, here)", "{1..here}", "(-here)", "(-b * here + c)", "(-b + here)", "a[1, here][2]", "(a = here)"}

// deeper puts one more about the name here.
func deeper(chance *rand.Rand, s string) string {
	wrap := wraps[chance.Intn(len(wraps))]
	if strings.Contains(s, "~here") { // a sign may stand within a ~ in brackets alone
		wrap = "(" + wrap + ")"
	}
	return strings.Replace(s, "here", wrap, 1)
}

// frames are sources about the name here, with things open already.
var frames = []string{
	"MODULE M; CONST a = here; END M.", "MODULE M; VAR a: ARRAY 1, here, 3 OF ARRAY 4 OF T; END M.", "MODULE M; TYPE T = RECORD (B) a: ARRAY -here OF T END; END M.",
	"MODULE M; PROCEDURE P(a: ARRAY OF T); BEGIN IF here THEN END RETURN -1 END P; END M.", "MODULE M; PROCEDURE P(); RETURN here END P; END M.",
	"MODULE M; BEGIN REPEAT IF a THEN ELSIF here THEN END UNTIL b END M.", "MODULE M; BEGIN REPEAT REPEAT UNTIL (a) UNTIL here; b END M.", "MODULE M; BEGIN FOR i := -1 TO here BY -2 DO END END M.",
	"MODULE M; BEGIN WHILE (a) DO ELSIF b DO c[1](2) := ~here END END M.", "MODULE M; BEGIN IF a THEN b ELSE c(1)[here] END END M.", "MODULE M; VAR a: RECORD b: RECORD c: ARRAY 1, 2 OF T; d: ARRAY here OF T END END; END M.",
}

func TestDeepSources(t *testing.T) { // P9.1
	all := readRows()
	chance := rand.New(rand.NewSource(92))
	seen := map[api.Errno]int{}
	for range 2000 {
		s := frames[chance.Intn(len(frames))]
		for range 5 + chance.Intn(20) {
			s = deeper(chance, s)
		}
		_, at, e := Module(s)
		want, fault := plainFault(all, "source", s)
		if at != want || e != fault {
			t.Fatalf("%q: %v at %d; want %v at %d", s, e, at, fault, want)
		}
		seen[e]++
	}
	if seen[api.OK] < 100 || seen[api.ErrTreeDeep] < 100 || seen[api.ErrTreeToken] > 0 {
		t.Errorf("%v: chance does not try enough", seen)
	}
}

// dressed is a source with blanks and remarks more between its tokens, at its beginning and at its end; and where each token came.
func dressed(chance *rand.Rand, s string, tokens []api.Token) (string, map[int]int) {
	var b strings.Builder
	places, from := map[int]int{}, 0
	for _, token := range tokens {
		b.WriteString(s[from:token.At])
		for range chance.Intn(3) {
			b.WriteString(gaps[chance.Intn(len(gaps))])
		}
		places[token.At] = b.Len()
		from = token.At
	}
	return b.String(), places
}

func TestBlanksChangeNothingButPlaces(t *testing.T) { // P9.4
	chance := rand.New(rand.NewSource(94))
	seen := map[api.Errno]int{}
	for range 3000 {
		s, tokens, _ := moduleOfChance(t, chance, 5)
		if chance.Intn(2) > 0 {
			s = written(spoilt(chance, tokens))
			tokens, _, _ = scan.All(s)
		}
		other, places := dressed(chance, s, tokens)
		n, at, e := Module(s)
		if e != api.OK {
			refusesAt(t, Module, other, places[at], e)
		} else {
			relocate(&n, places)
			reads(t, Module, other, told(n))
		}
		seen[e]++
		if t.Failed() {
			return
		}
	}
	if seen[api.OK] < 500 || seen[api.ErrTreeToken] < 500 {
		t.Errorf("%v: chance does not try enough", seen)
	}
}

func relocate(n *api.Node, places map[int]int) {
	n.At = places[n.At]
	for k := range n.Kids {
		relocate(&n.Kids[k], places)
	}
}

// What can't go on can't go on whatever stands behind.
func TestNothingGoesOnBehindAFault(t *testing.T) { // P9.5
	chance := rand.New(rand.NewSource(95))
	tried := 0
	for range 3000 {
		_, tokens, _ := moduleOfChance(t, chance, 3)
		bad := spoilt(chance, tokens)
		_, at, e := Module(written(bad))
		if e != api.ErrTreeToken {
			continue
		}
		again, _, _ := scan.All(written(bad))
		k := slices.IndexFunc(again, func(token api.Token) bool { return token.At == at })
		if again[k].Kind == api.TokEnd { // the end has nothing behind it
			continue
		}
		_, others, _ := moduleOfChance(t, chance, 2)
		for _, behind := range [][]api.Token{nil, tokens, tokens[min(k, len(tokens)):], others} {
			refusesAt(t, Module, written(slices.Concat(again[:k+1], behind)), at, api.ErrTreeToken)
		}
		tried++
	}
	if tried < 1000 {
		t.Errorf("only %d sources were tried", tried)
	}
}

// Whatever tokens, and whatever bytes stand there, an answer comes.
func TestWordsOfChance(t *testing.T) { // P9.1, P9.2, R1
	all := readRows()
	chance := rand.New(rand.NewSource(96))
	for range 5000 {
		var words []string
		for range chance.Intn(12) {
			words = append(words, anyWord(chance))
		}
		s := strings.Join(words, " ")
		for start, read := range map[string]face{"source": Module, "lone": Expr} {
			_, at, e := read(s)
			if want, fault := plainFault(all, start, s); at != want || e != fault {
				t.Fatalf("%q: %v at %d; want %v at %d", s, e, at, fault, want)
			}
		}
		b := make([]byte, chance.Intn(40))
		chance.Read(b)
		for _, read := range []face{Module, Expr} {
			n, at, e := read(string(b))
			_, place, fault := scan.All(string(b))
			if fault != api.OK && (!isNone(n) || at != place || e != fault) {
				t.Fatalf("%q: %v at %d; want %v at %d", b, e, at, fault, place)
			}
		}
	}
}
