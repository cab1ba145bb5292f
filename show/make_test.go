package show

import (
	"math/rand"
	"slices"
	"strings"

	"carrel/api"
)

// This file makes trees of chance, which are right but that too much may be open, and spoils them.

type maker struct {
	chance *rand.Rand
	left   int // how many more nodes may be made here, about
}

func (m *maker) coin() bool { return m.chance.Intn(2) > 0 }

func (m *maker) oneOf(words string) string {
	all := strings.Fields(words)
	return all[m.chance.Intn(len(all))]
}

// node is one with a place of chance, which nobody is to look at.
func (m *maker) node(kind int, text string, kids ...api.Node) api.Node {
	m.left--
	return api.Node{Kind: kind, Text: text, Kids: kids, At: m.chance.Intn(100) - 50}
}

func (m *maker) name() string { return m.oneOf("a b i x1 Long CHAR End exactlyTwentyLetters") }

func (m *maker) named(kind int) api.Node { return m.node(kind, m.name()) }

func (m *maker) flagged(n api.Node) api.Node {
	n.Flag = m.coin()
	return n
}

func (m *maker) many(least, most int, make func() api.Node) []api.Node {
	if m.left <= 0 {
		most = least
	}
	var all []api.Node
	for range least + m.chance.Intn(most-least+1) {
		all = append(all, make())
	}
	return all
}

// fresh is one that begins with so many nodes again.
func (m *maker) fresh(left int, make func() api.Node) func() api.Node {
	return func() api.Node {
		outer := m.left
		defer func() { m.left = outer }()
		m.left = left
		return make()
	}
}

func (m *maker) module(size int) api.Node {
	m.left = size
	n := m.named(api.NModule)
	for _, one := range []func() api.Node{func() api.Node { return m.named(api.NImport) }, m.constant, m.typeNamed, m.variables, m.procedure} {
		n.Kids = append(n.Kids, m.many(0, 3, m.fresh(size, one))...)
	}
	n.Kids = append(n.Kids, m.many(0, 1, m.fresh(size, m.block))...)
	return n
}

func (m *maker) constant() api.Node {
	return m.flagged(m.node(api.NConst, m.name(), m.expression()))
}

func (m *maker) typeNamed() api.Node { return m.node(api.NType, m.name(), m.typeNode()) }

func (m *maker) idents(flags bool) []api.Node {
	return m.many(1, 3, func() api.Node {
		if flags {
			return m.flagged(m.named(api.NIdent))
		}
		return m.named(api.NIdent)
	})
}

func (m *maker) variables() api.Node {
	return m.node(api.NVar, "", append(m.idents(true), m.typeNode())...)
}

func (m *maker) fields() api.Node {
	return m.node(api.NFields, "", append(m.idents(false), m.typeNode())...)
}

func (m *maker) parameters() api.Node {
	kind := m.named(api.NNamed)
	if m.coin() {
		kind = m.node(api.NOpen, "", kind)
	}
	return m.flagged(m.node(api.NParam, "", append(m.idents(false), kind)...))
}

func (m *maker) procedure() api.Node {
	size := m.left
	n := m.flagged(m.named(api.NProc))
	n.Kids = m.many(0, 3, m.parameters)
	for _, one := range []func() []api.Node{
		func() []api.Node { return m.many(0, 1, func() api.Node { return m.named(api.NResult) }) },
		func() []api.Node { return m.many(0, 2, m.constant) },
		func() []api.Node { return m.many(0, 2, m.variables) },
		func() []api.Node { return m.many(0, 1, m.block) },
		func() []api.Node {
			return m.many(0, 1, func() api.Node { return m.node(api.NReturn, "", m.expression()) })
		},
	} {
		m.left = size
		n.Kids = append(n.Kids, one()...)
	}
	return n
}

func (m *maker) typeNode() api.Node {
	choice := m.chance.Intn(8)
	if m.left <= 0 {
		choice = 7
	}
	switch {
	case choice < 3:
		return m.node(api.NArray, "", m.fresh(4, m.expression)(), m.typeNode())
	case choice < 6:
		n := m.node(api.NRecord, "", m.many(0, 3, m.fields)...)
		if m.coin() {
			n.Text = m.name()
		}
		return n
	case choice == 6:
		return m.node(api.NPointer, "", m.named(api.NNamed))
	}
	return m.named(api.NNamed)
}

func (m *maker) block() api.Node { return m.node(api.NBlock, "", m.many(0, 3, m.statement)...) }

func (m *maker) statement() api.Node {
	choice, within := m.chance.Intn(6), m.fresh(6, m.expression)
	if m.left <= 0 {
		choice %= 2
	}
	switch choice {
	case 0:
		return m.node(api.NAssign, "", m.designator(), within())
	case 1:
		return m.node(api.NDo, "", m.designator())
	case 2:
		n := m.node(api.NRepeat, "", m.block())
		n.Kids = append(n.Kids, within())
		return n
	case 3:
		return m.node(api.NFor, m.name(), append(m.many(2, 3, within), m.block())...)
	}
	n := m.node([]int{api.NIf, api.NWhile}[choice-4], "")
	for range 1 + m.chance.Intn(2) {
		n.Kids = append(n.Kids, within(), m.block())
	}
	if choice == 4 {
		n.Kids = append(n.Kids, m.many(0, 1, m.block)...)
	}
	return n
}

func (m *maker) expression() api.Node {
	choice := m.chance.Intn(6)
	if m.left <= 0 {
		choice = 5
	}
	switch {
	case choice < 3:
		n := m.node(api.NBinary, m.oneOf(signs), m.expression())
		n.Kids = append(n.Kids, m.expression())
		return n
	case choice == 3:
		return m.node(api.NUnary, m.oneOf("+ - ~"), m.expression())
	case choice == 4:
		return m.designator()
	}
	return m.operand()
}

func (m *maker) operand() api.Node {
	n := m.node(0, "")
	switch m.chance.Intn(7) {
	case 0:
		n.Kind, n.N = api.NInt, int64(int32(m.chance.Uint32()))
	case 1:
		n.Kind, n.N = api.NChar, m.chance.Int63n(256)
	case 2:
		n.Kind, n.Text = api.NStr, []string{"", "a", "END", "+", " ;  ", "a b", "(*", "'", "\\n"}[m.chance.Intn(9)]
	case 3:
		n.Kind = api.NNil
	case 4:
		n.Kind, n.N = api.NBool, m.chance.Int63n(2)
	case 5:
		n.Kind, n.Kids = api.NSet, m.many(0, 3, m.element)
	case 6:
		return m.designator()
	}
	return n
}

func (m *maker) element() api.Node {
	n := m.expression()
	if m.coin() {
		n = m.node(api.NRange, "", n, m.expression())
	}
	return n
}

func (m *maker) designator() api.Node {
	n := m.named(api.NName)
	for range m.chance.Intn(3) {
		switch m.chance.Intn(4) {
		case 0:
			n = m.node(api.NField, m.name(), n)
		case 1:
			n = m.node(api.NIndex, "", n, m.expression())
		case 2:
			n = m.node(api.NDeref, "", n)
		case 3:
			n = m.node(api.NCall, "", append([]api.Node{n}, m.many(0, 3, m.expression)...)...)
		}
	}
	return n
}

// walk goes through a tree's nodes, which may be changed.
func walk(n *api.Node, do func(*api.Node)) {
	do(n)
	for k := range n.Kids {
		walk(&n.Kids[k], do)
	}
}

func nodesOf(n *api.Node) []*api.Node {
	var all []*api.Node
	walk(n, func(one *api.Node) { all = append(all, one) })
	return all
}

// copied is a tree with lists of its own.
func copied(n api.Node) api.Node {
	n.Kids = slices.Clone(n.Kids)
	for k := range n.Kids {
		n.Kids[k] = copied(n.Kids[k])
	}
	return n
}

// someTexts and someNumbers are what may stand in a field, or may not.
var (
	someTexts   = append(strings.Fields(signs+` a END End 1 a_b exactlyTwentyLetters exactlyTwentyLetterss ~ ! : := .. " ( ' ä NIL TRUE`), "", " ", "a ", "+ ", "\x7F", "= #", strings.Repeat("x", 200), strings.Repeat("x", 201))
	someNumbers = []int64{0, 1, 2, -1, 255, 256, 1<<31 - 1, 1 << 31, -1 << 31, -1<<31 - 1, 1 << 32, 1<<63 - 1, -1 << 63}
)

// spoil changes one node of a tree, or its Kids; others are nodes to put in.
func spoil(chance *rand.Rand, n *api.Node, others []*api.Node) {
	all := nodesOf(n)
	one := all[chance.Intn(len(all))]
	other := copied(*others[chance.Intn(len(others))])
	many := len(one.Kids)
	switch choice := chance.Intn(9); {
	case choice == 0:
		one.Kind = chance.Intn(40) - 1
	case choice == 1:
		one.Text = someTexts[chance.Intn(len(someTexts))]
	case choice == 2:
		one.N = someNumbers[chance.Intn(len(someNumbers))]
	case choice == 3:
		one.Flag = !one.Flag
	case choice == 4:
		*one = other
	case choice == 5 || many == 0:
		one.Kids = slices.Insert(one.Kids, chance.Intn(many+1), other)
	case choice == 6:
		k := chance.Intn(many)
		one.Kids = slices.Delete(one.Kids, k, k+1)
	case choice == 7:
		k, l := chance.Intn(many), chance.Intn(many)
		one.Kids[k], one.Kids[l] = one.Kids[l], one.Kids[k]
	case choice == 8:
		k := chance.Intn(many)
		one.Kids = slices.Insert(one.Kids, k, copied(one.Kids[k]))
	}
}
