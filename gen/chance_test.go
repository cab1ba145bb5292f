package gen

import (
	"iter"
	"math/rand"
	"slices"
	"strings"
	"testing"

	"carrel/api"
	"carrel/check"
	"carrel/sym"
)

// grammar says what may stand for a letter in brackets: rows of texts with such letters in them; those of the first one end there.
type grammar map[byte][2][]string

// chanceGrammar makes statements and expressions over ahead's names.
func chanceGrammar() grammar {
	return grammar{
		'I': {
			{"i", "j", "y", "0", "1", "2", "(-1)", "k", "L.n", "L.k", "v[1]", "r.x", "2147483647", "255"},
			{"(<I> + <I>)", "(<I> - <I>)", "(<I> * <I>)", "(<I> DIV <N>)", "(<I> MOD <N>)", "(-<I>)", "ABS(<I>)", "ORD(<C>)", "ORD(<T>)", "ORD(<B>)", "ORD(y)",
				"LSL(<I>, <I>)", "ASR(<I>, <I>)", "ROR(<I>, <I>)", "F(<I>)", "I(<I>, <C>)", "v[<J>]", "w[<J>][<J>]", "yy[<J>]", "<P>.x", "<P>.v[<J>]", "<Q>.y", "L.a[<J>]",
				"L.Sum(<V>)", "L.Twice()", "L.Low(<I>)", "rr.y", "(<I> - <I> + <I> - <I>)", "G(<Y>).x"},
		},
		'J': {{"0", "1", "0", "1", "ORD(b)"}, {"((<I> + i) MOD 2)", "((<I> + j) MOD 2)", "((<I> + i) MOD 4)", "(<I> + i)", "y", "ORD(<B>)"}},
		'N': {{"1", "2", "7", "16"}, {"((<I> + i) MOD 5 + 1)", "(ABS(<I> + j) MOD 20 + 1)", "(<I> + j)"}},
		'B': {
			{"b", "d", "TRUE", "rr.b", "(p = NIL)", "(i < j)"},
			{"(<I> = <I>)", "(<I> # <I>)", "(<I> < <I>)", "(<I> <= <I>)", "(<I> > <I>)", "(<I> >= <I>)", "(<C> = <C>)", "(<C> < <C>)", "(<C> >= <C>)", "(<T> = <T>)", "(<T> # <T>)",
				"(<B> & <B>)", "(<B> OR <B>)", "(~<B>)", "(<J> IN <T>)", "ODD(<I>)", "E(<C>)", "(<P> = <P>)", "(<Y> # <Y>)", "(<P> IS Q)", "(<P> IS T)", "(<Q> IS T)", "(<P> IS P)", "(NIL = <Y>)", "(<B> = <B>)"},
		},
		'C': {{"c", "0X", "kcc", "r.c", "s[0]", "L.kc", "0FFX"}, {"CHR((<I> + i) MOD 256)", "CHR(ABS(<I> + j) MOD 256)", "CHR(<I> + i)", "s[<J>]", "<P>.c", "L.t[<J>]"}},
		'T': {{"e", "f", "{}", "{1, 5..9}", "L.ks", "rr.z"}, {"(<T> + <T>)", "(<T> - <T>)", "(<T> * <T>)", "(<T> / <T>)", "(-<T>)", "{<J>}", "{<J>..<J>}", "{<J>, 7, <J>..20}", "<Q>.z"}},
		'P': {{"p", "pp", "r.next", "q.next"}, {"<Y>.next", "G(<Y>)", "<P>(P)"}},
		'Q': {{"q"}, {"<P>(Q)", "q"}},
		'Y': {{"p", "q", "pp", "t"}, {"<P>", "<Q>", "<P>(T)"}},
		'V': {{"v", "u", "w[0]"}, {"w[<J>]", "<P>.v", "r.v"}},
		'X': {{"i", "j"}, {"v[<J>]", "w[<J>][<J>]", "<P>.x", "r.x", "<P>.v[<J>]"}},
		'U': {{"e", "f"}, {"<Q>.z", "rr.z"}},
		'W': {{"p", "pp"}, {"<P>.next", "r.next"}},
		'L': {{"<S>", "<S>; <S>"}, {"<S>; <S>", "<S>; <S>; <S>", "<S>; <S>; <S>; <S>"}},
		'M': {{"", "<S>"}, {"<S>", "<S>; <S>"}},
		'S': {
			{"<X> := <I>", "EMIT(<C>)", "NEW(p)", "NEW(q)", "INC(<X>)", "b := <B>", "c := <C>", "p := q", "pp := p", "NEW(t)", "TAKE(c)", "q := t", "N", "L.Set(i)"},
			{"<X> := <I>", "<X> := <I>", "y := <I>", "yy[<J>] := <I>", "<Q>.y := <I>", "d := <B>", "<U> := <T>", "<P>.c := <C>", "s[<J>] := <C>", "<W> := <Y>", "q := <Q>",
				"v := <V>", "w[<J>] := <V>", "<P>.v := <V>", "<P>^ := r", "r2 := <P>^", "r := r2", "w := w", "s := \"abc\"", "s := \"\"", "<W> := NIL", "NEW(<W>)", "NEW(<W>)", "rr := rr", "<Q>^ := rr",
				"INC(<X>, <I>)", "DEC(<X>)", "DEC(<X>, <I>)", "INCL(<U>, <J>)", "EXCL(<U>, <J>)", "ASSERT(<B> OR ODD(<I>))", "EMIT(CHR(<I> MOD 26 + 65))", "TAKE(s[<J>])", "EMIT(CHR(48 + <I> MOD 10))",
				"L.Set(<I>)", "L.Up(<X>, s)", "L.Say(s)", "L.Say(\"lit\")", "L.Fill",
				"IF <B> THEN <M> END", "IF <B> THEN <M> ELSE <M> END", "IF <B> THEN <M> ELSIF <B> THEN <M> ELSE <M> END",
				"i := 0; WHILE i < <N> DO INC(i); <M> END", "WHILE <B> & (j < 9) DO INC(j); <M> ELSIF <B> & (i < 9) DO INC(i) END", "REPEAT INC(i); <M> UNTIL (i > <N>) OR <B>",
				"FOR i := <J> TO <N> DO <M> END", "FOR j := <N> TO <J> BY -1 DO <M> END", "FOR i := 0 TO (<I> + j) MOD 7 BY 2 DO <M> END",
				"IF <B> & <B> & ODD(<I>) THEN HALT END", "IF ~ODD(i) THEN FOR j := 0 TO 3000 DO NEW(q) END END"},
		},
	}
}

// with is a grammar with more: each of more stands for the letter ahead of it.
func (g grammar) with(more ...string) grammar {
	other := grammar{}
	for k, rows := range g {
		other[k] = [2][]string{slices.Clone(rows[0]), slices.Clone(rows[1])}
	}
	for _, x := range more {
		rows := other[x[0]]
		for range 4 {
			rows[1] = append(rows[1], x[1:])
		}
		other[x[0]] = rows
	}
	return other
}

func (g grammar) text(r *rand.Rand, of byte, depth int) string {
	rows := g[of]
	l := rows[0]
	if depth > 0 && r.Intn(6) > 0 {
		l = rows[1]
	}
	text := l[r.Intn(len(l))]
	var b strings.Builder
	for i := 0; i < len(text); i++ {
		if text[i] == '<' && i+2 < len(text) && text[i+2] == '>' {
			b.WriteString(g.text(r, text[i+1], depth-1))
			i += 2
			continue
		}
		b.WriteByte(text[i])
	}
	return b.String()
}

// chanceSource is a module's, in which procedures call those ahead of them, and themselves.
func chanceSource(r *rand.Rand) string {
	g := chanceGrammar()
	var b strings.Builder
	b.WriteString(strings.Replace(ahead, "CONST k = 5;", "CONST k = 5; kcc = 41X;", 1))
	body := func(g grammar, of byte, depth int) string { return g.text(r, of, depth) }
	one := g.with("Ia[<J>]", "ILEN(a)", "Ix[<J>]", "Xa[<J>]", "In")
	b.WriteString("PROCEDURE A1(n: INTEGER; VAR a: ARRAY OF INTEGER; x: V): INTEGER; VAR i: INTEGER; v: V; BEGIN IF " + body(one, 'B', 2) + " THEN i := A1(" + body(one, 'I', 2) + ", " + body(one, 'V', 1) + ", v) END; " +
		body(one, 'L', 3) + " RETURN " + body(one, 'I', 3) + " END A1;\n")
	g = g.with("IA1(<I>, <V>, <V>)")
	two := g.with("Xn", "SB1(<X>, s, <R>, <Y>)", "Ss := \"abcdefgh\"", "ILEN(s)", "Ir3.x").without("rr := rr")
	two['R'] = [2][]string{{"r3"}, {"r2", "<P>^"}}
	b.WriteString("PROCEDURE B1(VAR n: INTEGER; VAR s: ARRAY OF CHAR; r3: R; p: P); VAR c: CHAR; j: INTEGER; q: Q; BEGIN NEW(q); q.next := p; " + body(two, 'L', 3) + " END B1;\n")
	g = g.with("SB1(<X>, s, <R>, <Y>)")
	g['R'] = [2][]string{{"r"}, {"r2", "<P>^"}}
	three := g.with("Cs[<J>]", "ILEN(s)", "Sy := y + <I>", "IC1(<I>, s)").without("s := \"abc\"", "s := \"\"", "s[<J>] := <C>", "TAKE(s[<J>])", "L.Up(<X>, s)", "B1(<X>, s, <R>, <Y>)")
	b.WriteString("PROCEDURE C1(y: BYTE; s: ARRAY OF CHAR): BYTE; BEGIN " + body(three, 'L', 2) + " RETURN " + body(three, 'I', 2) + " END C1;\n")
	g = g.with("IC1(<I>, s)", "IC1(<I>, \"xyz\")")
	four := g.with("Wq2", "PD1(<Y>, q, <T>)", "Pq2")
	b.WriteString("PROCEDURE D1(q2: P; VAR q: Q; e: SET): P; VAR pp: P; f: SET; BEGIN pp := q2; " + body(four, 'L', 2) + " RETURN " + body(four, 'P', 2) + " END D1;\n")
	g = g.with("PD1(<Y>, q, <T>)")
	b.WriteString("BEGIN NEW(p); p.next := p; pp := p; NEW(q); q.next := q; NEW(t); t.next := q; r.next := t; r2.next := q; rr.next := p; i := 1; " + body(g, 'L', 4) + "; " + body(g, 'L', 4) + "; EMIT(\".\"); " + body(g, 'L', 4) + " END M.")
	return b.String()
}

// without is a grammar without some texts.
func (g grammar) without(less ...string) grammar {
	other := grammar{}
	for k, rows := range g {
		for i := range rows {
			rows[i] = slices.DeleteFunc(slices.Clone(rows[i]), func(s string) bool { return slices.Contains(less, s) })
		}
		other[k] = rows
	}
	return other
}

// chanceMods goes through so many rows of modules, each with its source.
func chanceMods(t *testing.T, r *rand.Rand, n int) iter.Seq2[string, []api.Mod] {
	l := checked(t, library)
	shown, _ := sym.Of(l)
	return func(yield func(string, []api.Mod) bool) {
		for made, tries := 0, 0; made < n; tries++ {
			if tries > 20*n {
				t.Fatalf("too few right ones: %d", made)
			}
			s := chanceSource(r)
			m, _, e := check.Source(s, []api.Sym{shown})
			if e != api.OK {
				continue
			}
			made++
			if !yield(s, []api.Mod{l, keyed(t, m)}) {
				return
			}
		}
	}
}

func chanceInput(r *rand.Rand) string {
	b := make([]byte, r.Intn(12))
	for i := range b {
		b[i] = byte(r.Intn(256))
	}
	return string(b)
}

func TestByChance(t *testing.T) { // P15.3
	ends := map[api.End]int{}
	r := rand.New(rand.NewSource(15))
	for s, mods := range chanceMods(t, r, 450) {
		fuel := []int64{int64(r.Intn(300)), int64(r.Intn(5000)), 30000, 100000}[r.Intn(4)]
		ends[agrees(t, s, mods, chanceInput(r), fuel).end]++
		if t.Failed() {
			t.Fatal(s)
		}
	}
	for _, kind := range []int{api.EndBudget, api.EndWait, api.EndHalt} {
		if ends[api.End{Kind: kind}] < 10 {
			t.Errorf("chance is one-sided: %v", ends)
		}
	}
	for n := api.TrapIndex; n <= api.TrapStack; n++ {
		if ends[trapped(n)] < 2 {
			t.Errorf("chance is one-sided: trap %d in %v", n, ends)
		}
	}
}
