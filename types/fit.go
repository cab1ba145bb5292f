package types

import "carrel/api"

// pair is two types of a row, of which one may fit the other; its methods are ways in which it does.
type pair struct {
	in       *row
	from, to int
}

// fit: is l a row with both of these types, and do they fit in some way?
func fit(l []api.Type, from, to int, ways ...func(pair) bool) bool {
	r, ok := read(l)
	return ok && r.has(from) && r.has(to) && pair{r, from, to}.some(ways...)
}

func (p pair) some(ways ...func(pair) bool) bool {
	for _, holds := range ways {
		if holds(p) {
			return true
		}
	}
	return false
}

// are: is the first one of this form, and the second one of that?
func (p pair) are(from, to int) bool { return p.in.is(p.from, from) && p.in.is(p.to, to) }

func (p pair) turned() pair { return pair{p.in, p.to, p.from} }

// elems is what both have within them.
func (p pair) elems() pair {
	return pair{p.in, p.in.types[p.from].Elem, p.in.types[p.to].Elem}
}

func (p pair) assigns() bool {
	return p.some(pair.sameThing, pair.numbers, pair.nilAsPointer, pair.pointers, pair.textAsArray)
}

func (p pair) sameThing() bool { return p.from == p.to && p.in.isThings(p.to) }

func (p pair) numbers() bool { return p.in.isNumber(p.from) && p.in.isNumber(p.to) }

func (p pair) chars() bool { return p.are(api.Char, api.Char) }

func (p pair) booleans() bool { return p.are(api.Boolean, api.Boolean) }

func (p pair) sets() bool { return p.are(api.Set, api.Set) }

func (p pair) nils() bool { return p.are(api.Nil, api.Nil) }

func (p pair) nilAsPointer() bool { return p.are(api.Nil, api.Pointer) }

func (p pair) pointerAsNil() bool { return p.turned().nilAsPointer() }

func (p pair) textAsArray() bool { return p.are(api.String, api.Array) && p.ofChars() }

func (p pair) textAsOpen() bool { return p.are(api.String, api.Open) && p.ofChars() }

func (p pair) ofChars() bool { return p.in.types[p.to].Elem == api.Char }

// opens: may one of them stand, whatever its length, for the other, an Open?
func (p pair) opens() bool {
	within := p.elems()
	return (p.are(api.Array, api.Open) || p.are(api.Open, api.Open)) && within.from == within.to
}

func (p pair) extends() bool { return p.records() || p.pointers() }

func (p pair) records() bool {
	if !p.are(api.Record, api.Record) {
		return false
	}
	for record := range p.in.upFrom(p.from) {
		if record == p.to {
			return true
		}
	}
	return false
}

// pointers: does the first one, a Pointer, extend the second one? One whose Record is not known yet extends itself alone.
func (p pair) pointers() bool {
	return p.are(api.Pointer, api.Pointer) && (p.from == p.to || p.elems().records())
}

func (p pair) pointersBack() bool { return p.turned().pointers() }
