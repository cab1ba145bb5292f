package tree

import (
	"fmt"
	"math/rand"
	"slices"
	"strings"
	"testing"

	"carrel/api"
	"carrel/scan"
)

// This file makes sources of chance, each with the tree that it says: what is written is made first, and then what stands there.

// maker writes a source, token by token.
type maker struct {
	chance *rand.Rand
	text   strings.Builder
	last   byte // of the token that was written last
	open   int
	most   int
	left   int // how many more nodes may be made here, about: of statements and types, or within an expression
}

func newMaker(chance *rand.Rand, most int) *maker {
	return &maker{chance: chance, most: most, left: most}
}

// anew has what is made here begin with another number of nodes, at most so many, and not count for what stands about it.
func (m *maker) anew(most int, make func() api.Node) api.Node {
	left := m.left
	defer func() { m.left = left }()
	m.left = 1 + m.chance.Intn(most)
	return make()
}

var gaps = []string{" ", "\n", "\t", "\r\n", "  ", "(* a *)", " (*(**)\"*) "}

// says writes tokens, and answers the place of the first one.
func (m *maker) says(tokens ...string) int {
	first := -1
	for _, token := range tokens {
		if m.needsGap(token[0]) || m.chance.Intn(2) > 0 {
			m.text.WriteString(gaps[m.chance.Intn(len(gaps))])
		}
		if first < 0 {
			first = m.text.Len()
		}
		m.text.WriteString(token)
		m.last = token[len(token)-1]
	}
	return first
}

// needsGap: would a token that begins with this byte be another one right behind the last one?
func (m *maker) needsGap(next byte) bool {
	inWord := func(c byte) bool {
		return '0' <= c && c <= '9' || 'a' <= c && c <= 'z' || 'A' <= c && c <= 'Z'
	}
	return inWord(m.last) && inWord(next) || strings.Contains(".. := <= >= (*", string([]byte{m.last, next}))
}

func (m *maker) oneOf(words ...string) string { return words[m.chance.Intn(len(words))] }

func (m *maker) coin() bool { return m.chance.Intn(2) > 0 }

func (m *maker) name() string {
	return m.oneOf("a", "b", "i", "x1", "Long", "CHAR", "INTEGER", "exactlyTwentyLetters")
}

// named says a name as a node.
func (m *maker) named(kind int) api.Node {
	name := m.name()
	return api.Node{Kind: kind, Text: name, At: m.says(name)}
}

// marked may say a * behind it.
func (m *maker) marked(kind int) api.Node {
	n := m.named(kind)
	if n.Flag = m.coin(); n.Flag {
		m.says("*")
	}
	return n
}

// count is how many there are of something; few, if not much is left.
func (m *maker) count(least, most int) int {
	if m.left <= 0 {
		return least
	}
	return least + m.chance.Intn(most-least+1)
}

// row says parts with a word between each two.
func (m *maker) row(count int, between string, part func() api.Node) []api.Node {
	var all []api.Node
	for k := range count {
		if k > 0 {
			m.says(between)
		}
		all = append(all, part())
	}
	return all
}

func (m *maker) module() api.Node {
	name := m.name()
	n := api.Node{Kind: api.NModule, Text: name, At: m.says("MODULE", name, ";")}
	if m.coin() {
		m.says("IMPORT")
		n.Kids = m.row(m.count(1, 3), ",", func() api.Node { return m.named(api.NImport) })
		m.says(";")
	}
	m.section(&n, "CONST", m.constant)
	m.section(&n, "TYPE", m.typeNamed)
	m.section(&n, "VAR", m.variables)
	for range m.count(0, 3) {
		n.Kids = append(n.Kids, m.anew(m.most, m.procedure))
		m.says(";")
	}
	if m.coin() {
		m.says("BEGIN")
		n.Kids = append(n.Kids, m.block())
	}
	m.says("END", name, ".")
	return n
}

// section may say a section: with none, one or more declarations.
func (m *maker) section(n *api.Node, key string, declaration func() api.Node) {
	if m.coin() {
		return
	}
	m.says(key)
	for range m.count(0, 3) {
		n.Kids = append(n.Kids, m.anew(m.most, declaration))
		m.says(";")
	}
}

func (m *maker) constant() api.Node {
	n := m.marked(api.NConst)
	m.says("=")
	n.Kids = []api.Node{m.whole()}
	return n
}

func (m *maker) typeNamed() api.Node {
	n := m.named(api.NType)
	m.says("=")
	n.Kids = []api.Node{m.anyType()}
	return n
}

func (m *maker) variables() api.Node {
	idents := m.row(m.count(1, 3), ",", func() api.Node { return m.marked(api.NIdent) })
	m.says(":")
	return api.Node{Kind: api.NVar, Kids: append(idents, m.anyType()), At: idents[0].At}
}

// bare says idents without a *, and the : behind them.
func (m *maker) bare() []api.Node {
	idents := m.row(m.count(1, 3), ",", func() api.Node { return m.named(api.NIdent) })
	m.says(":")
	return idents
}

func (m *maker) fields() api.Node {
	idents := m.bare()
	return api.Node{Kind: api.NFields, Kids: append(idents, m.anyType()), At: idents[0].At}
}

func (m *maker) parameters() api.Node {
	n := api.Node{Kind: api.NParam, Flag: m.coin()}
	if n.Flag {
		n.At = m.says("VAR")
	}
	n.Kids = m.bare()
	if !n.Flag {
		n.At = n.Kids[0].At
	}
	if m.coin() {
		at := m.says("ARRAY", "OF")
		n.Kids = append(n.Kids, api.Node{Kind: api.NOpen, Kids: []api.Node{m.named(api.NNamed)}, At: at})
		return n
	}
	n.Kids = append(n.Kids, m.named(api.NNamed))
	return n
}

func (m *maker) procedure() api.Node {
	at := m.says("PROCEDURE")
	n := m.marked(api.NProc)
	n.At = at
	if m.coin() {
		m.says("(")
		n.Kids = m.row(m.count(0, 3), ";", m.parameters)
		m.says(")")
		if m.coin() {
			m.says(":")
			n.Kids = append(n.Kids, m.named(api.NResult))
		}
	}
	m.says(";")
	m.section(&n, "CONST", m.constant)
	m.section(&n, "VAR", m.variables)
	if m.coin() {
		m.says("BEGIN")
		n.Kids = append(n.Kids, m.block())
	}
	if m.coin() {
		where := m.says("RETURN")
		n.Kids = append(n.Kids, made(api.NReturn, where, m.whole()))
	}
	m.says("END", n.Text)
	return n
}

func made(kind, at int, kids ...api.Node) api.Node {
	return api.Node{Kind: kind, Kids: kids, At: at}
}

// opens: may something be opened here? If so, it is.
func (m *maker) opens() bool {
	if m.open == api.MaxOpen || m.left <= 0 {
		return false
	}
	m.open++
	return true
}

func (m *maker) anyType() api.Node {
	m.left--
	switch choice := m.chance.Intn(5); {
	case choice < 2 && m.opens():
		defer func() { m.open-- }()
		return m.array(m.says("ARRAY"))
	case choice == 2 && m.opens():
		defer func() { m.open-- }()
		return m.record()
	case choice == 3:
		return made(api.NPointer, m.says("POINTER", "TO"), m.named(api.NNamed))
	}
	return m.named(api.NNamed)
}

// array says what stands behind ARRAY, or behind a comma of its lengths.
func (m *maker) array(at int) api.Node {
	length := m.whole()
	if m.coin() && m.opens() {
		defer func() { m.open-- }()
		m.says(",")
		return made(api.NArray, at, length, m.array(at))
	}
	m.says("OF")
	return made(api.NArray, at, length, m.anyType())
}

func (m *maker) record() api.Node {
	n := made(api.NRecord, m.says("RECORD"))
	if m.coin() {
		n.Text = m.name()
		m.says("(", n.Text, ")")
	}
	n.Kids = m.row(m.count(0, 3), ";", m.fields)
	m.says("END")
	return n
}

// block says statements, some of them with nothing. A Block's place is that of the next token, whatever that is: settle finds it.
func (m *maker) block() api.Node {
	n := made(api.NBlock, m.text.Len())
	for k := range m.count(1, 4) {
		if k > 0 {
			m.says(";")
		}
		if m.chance.Intn(4) > 0 {
			n.Kids = append(n.Kids, m.statement())
		}
	}
	return n
}

// settle gives all Blocks of a tree that was made their places.
func settle(n *api.Node, tokens []api.Token) {
	if n.Kind == api.NBlock {
		next := slices.IndexFunc(tokens, func(token api.Token) bool { return token.At >= n.At })
		n.At = tokens[next].At
	}
	for k := range n.Kids {
		settle(&n.Kids[k], tokens)
	}
}

// moduleOfChance is a source, its tokens and its tree.
func moduleOfChance(t *testing.T, chance *rand.Rand, most int) (string, []api.Token, api.Node) {
	t.Helper()
	return sourceOf(t, newMaker(chance, most), (*maker).module)
}

func exprOfChance(t *testing.T, chance *rand.Rand, most int) (string, []api.Token, api.Node) {
	t.Helper()
	return sourceOf(t, newMaker(chance, most), (*maker).expression)
}

func sourceOf(t *testing.T, m *maker, part func(*maker) api.Node) (string, []api.Token, api.Node) {
	t.Helper()
	n := part(m)
	s := m.text.String()
	tokens, at, e := scan.All(s)
	if e != api.OK {
		t.Fatalf("%q has the fault %v at %d", s, e, at)
	}
	settle(&n, tokens)
	return s, tokens, n
}

func (m *maker) statement() api.Node {
	m.left--
	if m.coin() || !m.opens() {
		return m.assignOrDo()
	}
	defer func() { m.open-- }()
	switch m.chance.Intn(4) {
	case 0:
		return m.branches(api.NIf, "IF", "THEN")
	case 1:
		return m.branches(api.NWhile, "WHILE", "DO")
	case 2:
		at := m.says("REPEAT")
		block := m.block()
		m.says("UNTIL")
		return made(api.NRepeat, at, block, m.whole())
	}
	name := m.name()
	n := api.Node{Kind: api.NFor, Text: name, At: m.says("FOR", name, ":=")}
	n.Kids = append(n.Kids, m.whole())
	m.says("TO")
	n.Kids = append(n.Kids, m.whole())
	if m.coin() {
		m.says("BY")
		n.Kids = append(n.Kids, m.whole())
	}
	m.says("DO")
	n.Kids = append(n.Kids, m.block())
	m.says("END")
	return n
}

func (m *maker) branches(kind int, begins, behind string) api.Node {
	n := made(kind, m.says(begins))
	for k := range m.count(1, 3) {
		if k > 0 {
			m.says("ELSIF")
		}
		n.Kids = append(n.Kids, m.whole())
		m.says(behind)
		n.Kids = append(n.Kids, m.block())
	}
	if kind == api.NIf && m.coin() {
		m.says("ELSE")
		n.Kids = append(n.Kids, m.block())
	}
	m.says("END")
	return n
}

func (m *maker) assignOrDo() api.Node {
	at := 0
	designator := m.anew(maxWithin, func() (n api.Node) {
		n, at = m.designator()
		return n
	})
	if m.coin() {
		m.says(":=")
		return made(api.NAssign, at, designator, m.whole())
	}
	return made(api.NDo, at, designator)
}

// maxWithin is how many nodes an expression in a module has, about.
const maxWithin = 12

// whole says an expression that stands in no other one.
func (m *maker) whole() api.Node { return m.anew(maxWithin, m.expression) }

func (m *maker) expression() api.Node { return m.ranked(1) }

// ranked says an expression where one of at least a rank is asked for: the ranks, and what each asks of its Kids, are those of
// chapter 10's table. One that ranks less, and some others, have brackets about them.
func (m *maker) ranked(asked int) api.Node {
	m.left--
	rank := 1 + m.chance.Intn(5)
	if m.left <= 0 {
		rank = 5
	}
	if (rank < asked || m.chance.Intn(6) == 0) && m.opens() {
		defer func() { m.open-- }()
		m.says("(")
		defer m.says(")")
		return m.of(rank)
	}
	return m.of(max(rank, asked))
}

func (m *maker) of(rank int) api.Node {
	switch {
	case rank == 1:
		return m.binary(2, 2, "=", "#", "<", "<=", ">", ">=", "IN", "IS")
	case rank == 2 && m.coin() && m.opens():
		return m.unary(3, "+", "-")
	case rank == 2:
		return m.binary(2, 3, "+", "-", "OR")
	case rank == 3:
		return m.binary(3, 4, "*", "/", "DIV", "MOD", "&")
	case rank == 4 && m.opens():
		return m.unary(4, "~")
	}
	return m.operand()
}

func (m *maker) binary(left, right int, signs ...string) api.Node {
	first, sign := m.ranked(left), m.oneOf(signs...)
	at := m.says(sign)
	return api.Node{Kind: api.NBinary, Text: sign, Kids: []api.Node{first, m.ranked(right)}, At: at}
}

func (m *maker) unary(asked int, signs ...string) api.Node {
	sign := m.oneOf(signs...)
	at := m.says(sign)
	defer func() { m.open-- }()
	return api.Node{Kind: api.NUnary, Text: sign, Kids: []api.Node{m.ranked(asked)}, At: at}
}

func (m *maker) operand() api.Node {
	switch m.chance.Intn(8) {
	case 0:
		n := m.chance.Int63n(1 << 31)
		return api.Node{Kind: api.NInt, N: n, At: m.says(fmt.Sprint(n))}
	case 1:
		n := m.chance.Uint32()
		return api.Node{Kind: api.NInt, N: int64(int32(n)), At: m.says(fmt.Sprintf("0%XH", n))}
	case 2:
		n := m.chance.Int63n(256)
		return api.Node{Kind: api.NChar, N: n, At: m.says(fmt.Sprintf("0%XX", n))}
	case 3:
		text := m.oneOf("", "a", "END", "+", ";", "a b", "(*", "NIL")
		return api.Node{Kind: api.NStr, Text: text, At: m.says(`"` + text + `"`)}
	case 4:
		return m.constantWord()
	case 5:
		if m.opens() {
			defer func() { m.open-- }()
			return m.set()
		}
	}
	n, _ := m.designator()
	return n
}

func (m *maker) constantWord() api.Node {
	switch word := m.oneOf("NIL", "TRUE", "FALSE"); word {
	case "NIL":
		return api.Node{Kind: api.NNil, At: m.says(word)}
	case "TRUE":
		return api.Node{Kind: api.NBool, N: 1, At: m.says(word)}
	}
	return api.Node{Kind: api.NBool, At: m.says("FALSE")}
}

func (m *maker) set() api.Node {
	n := made(api.NSet, m.says("{"))
	n.Kids = m.row(m.count(0, 3), ",", func() api.Node {
		from := m.expression()
		if m.coin() {
			return from
		}
		at := m.says("..")
		return made(api.NRange, at, from, m.expression())
	})
	m.says("}")
	return n
}

// designator says one, and answers the place of its first token, too.
func (m *maker) designator() (api.Node, int) {
	n := m.named(api.NName)
	first := n.At
	for range m.count(0, 3) {
		n = m.selected(n)
	}
	return n, first
}

func (m *maker) selected(n api.Node) api.Node {
	m.left--
	choice := m.chance.Intn(4)
	if choice > 1 && !m.opens() {
		choice = 0
	}
	switch choice {
	case 0:
		return made(api.NDeref, m.says("^"), n)
	case 1:
		at := m.says(".")
		field := m.named(api.NField)
		field.Kids, field.At = []api.Node{n}, at
		return field
	case 2:
		at := m.says("[")
		for _, one := range m.row(m.count(1, 3), ",", m.expression) {
			n = made(api.NIndex, at, n, one)
		}
		m.says("]")
	case 3:
		n = made(api.NCall, m.says("("), n)
		n.Kids = append(n.Kids, m.row(m.count(0, 3), ",", m.expression)...)
		m.says(")")
	}
	m.open--
	return n
}
