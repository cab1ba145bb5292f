package link

import (
	"slices"
	"strings"
	"testing"

	"carrel/api"
)

func orders(t *testing.T, what string, want []int, l ...api.Object) {
	t.Helper()
	order, name, e := Order(right(t, l...))
	if e != api.OK || name != "" || !slices.Equal(order, want) {
		t.Errorf("%s: %v, %q, %v; want %v", what, order, name, e, want)
	}
}

func TestOrderExamples(t *testing.T) { // P16.1
	a, b := examples()
	orders(t, "b, a", []int{1, 0}, b, a)
	orders(t, "a, b", []int{0, 1}, a, b)
	orders(t, "a", []int{0}, a)
	misfits(t, "b", []api.Object{b}, "A", api.ErrLinkNone)
	misfits(t, "a, a", []api.Object{a, a}, "A", api.ErrLinkTwice)
	misfits(t, "none", nil, "", api.ErrArg)
	misfits(t, "empty", []api.Object{}, "", api.ErrArg)
}

func TestOrder(t *testing.T) { // P16.1: the next one is always the first of the list whose Imports have a place
	orders(t, "without imports", []int{0, 1, 2}, one("C"), one("A"), one("B"))
	orders(t, "the list is kept where it may be", []int{1, 0, 2}, one("C", "A"), one("A"), one("B"))
	orders(t, "backwards", []int{3, 2, 1, 0}, one("D", "C"), one("C", "B"), one("B", "A"), one("A"))
	orders(t, "from the beginning again", []int{2, 0, 4, 1, 3}, one("A", "C"), one("B", "E"), one("C"), one("D", "B"), one("E"))
	orders(t, "several imports", []int{1, 3, 0, 2, 4}, one("X", "D", "B"), one("B"), one("Y", "B", "X"), one("D", "B"), one("Z", "Y", "B"))
	orders(t, "names apart by case alone", []int{1, 0}, one("a", "A"), one("A"))
}

func TestOrderOfSixteen(t *testing.T) { // P16.1: at most MaxModules
	var l []api.Object
	var want []int
	for i := range 16 {
		o := one(string(rune('A' + i)))
		for k := i + 1; k < 16; k++ {
			o.Imports = append(o.Imports, api.Import{Name: string(rune('A' + k))})
		}
		l, want = append(l, o), append(want, 15-i)
	}
	orders(t, "16", want, l...)
	misfits(t, "17", append(slices.Clone(l), one("Q")), "", api.ErrArg)
	l[15].Imports = []api.Import{{Name: "H"}}
	misfits(t, "H to P and round", l, "A", api.ErrLinkCycle)
}

func TestNoObject(t *testing.T) { // P16.1: ErrLinkObject
	bad := []api.Object{{}, {Name: "A"}, one(""), one("1"), one("A b"), one(strings.Repeat("x", 21)), one("A", "A"), one("A", "B", "B"), {Name: "A", Code: []uint32{0}, Init: 1}, {Name: "A", Code: []uint32{0}, Vars: []int{0}}}
	for _, o := range bad {
		misfits(t, "alone", []api.Object{o}, o.Name, api.ErrLinkObject)
		misfits(t, "behind one that is", []api.Object{one("C", "None"), o, {Name: "2"}}, o.Name, api.ErrLinkObject)
		misfits(t, "twice", []api.Object{o, o}, o.Name, api.ErrLinkObject)
	}
	o := one("B")
	o.Fixes = []api.Fix{{At: 0, Kind: 9}}
	misfits(t, "a fix of no kind", []api.Object{one("A"), o}, "B", api.ErrLinkObject)
}

func TestTwice(t *testing.T) { // P16.1: ErrLinkTwice, and the first one that stands behind another of its Name
	other := one("A")
	other.Key = 7
	misfits(t, "keys make no difference", []api.Object{one("A"), other}, "A", api.ErrLinkTwice)
	misfits(t, "the first that comes again", []api.Object{one("A"), one("B"), one("B"), one("A")}, "B", api.ErrLinkTwice)
	misfits(t, "apart", []api.Object{one("A"), one("B"), one("C"), one("A"), one("B")}, "A", api.ErrLinkTwice)
}

func TestImports(t *testing.T) { // P16.1: ErrLinkNone, ErrLinkKey, in the order of the list, each Import in order
	keyed := func(o api.Object, keys ...uint32) api.Object {
		for i, k := range keys {
			o.Imports[i].Key = k
		}
		return o
	}
	a, b := one("A"), one("B")
	a.Key, b.Key = 5, 0xFFFFFFFF
	orders(t, "with their keys", []int{0, 1, 2}, a, b, keyed(one("C", "A", "B"), 5, 0xFFFFFFFF))
	for _, x := range []struct {
		what string
		l    []api.Object
		name string
		e    api.Errno
	}{
		{"another key", []api.Object{a, keyed(one("C", "A"), 4)}, "A", api.ErrLinkKey},
		{"no key", []api.Object{one("C", "B"), b}, "B", api.ErrLinkKey},
		{"the second key", []api.Object{keyed(one("C", "A", "B"), 5, 5), a, b}, "B", api.ErrLinkKey},
		{"the second is none", []api.Object{keyed(one("C", "A", "X"), 5), a}, "X", api.ErrLinkNone},
		{"none, then a key", []api.Object{one("C", "X", "A"), a}, "X", api.ErrLinkNone},
		{"a key, then none", []api.Object{one("C", "A", "X"), a}, "A", api.ErrLinkKey},
		{"of two objects, a key ahead", []api.Object{one("C", "A"), one("D", "X"), a}, "A", api.ErrLinkKey},
		{"of two objects, none ahead", []api.Object{one("D", "X"), one("C", "A"), a}, "X", api.ErrLinkNone},
		{"a name in other letters", []api.Object{one("C", "a"), a}, "a", api.ErrLinkNone},
	} {
		misfits(t, x.what, right(t, x.l...), x.name, x.e)
	}
}

func TestCycles(t *testing.T) { // P16.1: ErrLinkCycle, and the first one of the list that has no place in the order
	for _, x := range []struct {
		what string
		l    []api.Object
		name string
	}{
		{"two", []api.Object{one("A", "B"), one("B", "A")}, "A"},
		{"the other way round", []api.Object{one("B", "A"), one("A", "B")}, "B"},
		{"behind one that has a place", []api.Object{one("X"), one("B", "X", "A"), one("A", "B")}, "B"},
		{"one that only imports them", []api.Object{one("X", "A"), one("A", "B"), one("B", "A")}, "X"},
		{"one that they import", []api.Object{one("A", "B", "X"), one("X"), one("B", "A")}, "A"},
		{"three", []api.Object{one("X"), one("C", "A"), one("A", "B"), one("B", "C")}, "C"},
	} {
		misfits(t, x.what, right(t, x.l...), x.name, api.ErrLinkCycle)
	}
}

func TestWhichErrorIsTold(t *testing.T) { // P16.1 to P16.3: the first of them
	bad, misfix := api.Object{Name: "Bad"}, one("F")
	misfix.Procs, misfix.Names, misfix.Exports = []int{0}, []string{"P"}, []bool{true}
	misfix.Fixes = []api.Fix{{At: 0, Kind: api.FixProc, M: -1, N: 0}} // of a word that is no branch
	great := one("G")
	great.Vars = many(200, 16384)
	cycle := []api.Object{one("A", "B"), one("B", "A")}
	key := one("K", "F")
	key.Imports[0].Key = 1
	l := append([]api.Object{misfix, great}, cycle...)
	misfits(t, "a cycle ahead of a fix", l, "A", api.ErrLinkCycle)
	l = append(l, key)
	misfits(t, "a key ahead of a cycle", l, "F", api.ErrLinkKey)
	misfits(t, "none ahead of a key", append([]api.Object{one("N", "None")}, l...), "None", api.ErrLinkNone)
	l = append(l, one("N", "None"), one("G"))
	misfits(t, "twice ahead of an import", l, "G", api.ErrLinkTwice)
	l = append(l, bad)
	misfits(t, "no object ahead of twice", l, "Bad", api.ErrLinkObject)
	misfits(t, "too many ahead of no object", append(l, many(12, bad)...), "", api.ErrArg)
	refused(t, "a fix ahead of too long", []api.Object{great, misfix}, "F", api.ErrLinkFix)
	refused(t, "too long", []api.Object{great, one("F")}, "", api.ErrLinkLong)
	orders(t, "Order asks neither for fixes nor for lengths", []int{0, 1}, great, misfix)
}

func TestListsOrderMakesNoDifference(t *testing.T) { // what follows: whether objects fit together
	for _, l := range [][]api.Object{
		{one("A"), one("B", "A"), one("C", "A", "B"), one("D", "C")},
		{one("A"), one("B", "A", "D"), one("C", "B"), one("D", "C")},
		{one("A"), one("B", "A"), one("C", "B"), one("C")},
		{one("A"), one("B", "X"), one("C", "B"), one("D")},
		{one("A"), one("B", "A"), {Name: "C"}, one("D")},
	} {
		_, _, first := Order(l)
		permuted(l, func(l []api.Object) {
			order, _, e := Order(l)
			if e != first {
				t.Errorf("%v, %v", e, first)
			}
			importsAhead(t, l, order)
		})
	}
}

// permuted hands out a list in each order.
func permuted(l []api.Object, use func([]api.Object)) {
	var with func(done, left []api.Object)
	with = func(done, left []api.Object) {
		if len(left) == 0 {
			use(done)
		}
		for i := range left {
			with(append(slices.Clone(done), left[i]), slices.Delete(slices.Clone(left), i, i+1))
		}
	}
	with(nil, l)
}

// importsAhead: does each object stand behind all that it imports, and each once?
func importsAhead(t *testing.T, l []api.Object, order []int) {
	t.Helper()
	at := map[string]int{}
	for i, place := range order {
		at[l[place].Name] = i
	}
	if len(at) != len(order) {
		t.Errorf("%v has one twice", order)
	}
	for i, place := range order {
		for _, m := range l[place].Imports {
			if at[m.Name] >= i {
				t.Errorf("%s stands ahead of %s", l[place].Name, m.Name)
			}
		}
	}
}
