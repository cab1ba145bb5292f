package sym

import (
	"iter"
	"math"

	"carrel/api"
	"carrel/obj"
	"carrel/word"
)

const (
	wordBytes = 4
	wordBits  = 32
)

// What a parameter's second byte is made of.
const (
	openBit = 1 << iota
	refBit
	maxBits = openBit | refBit
)

// writer adds one thing after the other behind its bytes.
type writer struct{ b []byte }

// Each part is made by itself and laid behind: obj would copy all that stands ahead of it.
func (w *writer) number(n int) { w.b = append(w.b, obj.PutUint(nil, uint32(n))...) }

func (w *writer) text(s string) { w.b = append(w.b, obj.PutText(nil, s)...) }

func (w *writer) octet(n int) { w.b = append(w.b, byte(n)) }

func (w *writer) word(x uint32) {
	at := len(w.b)
	w.b = append(w.b, make([]byte, wordBytes)...)
	word.Put(w.b, at, x)
}

// written writes how many things a row has, and hands out each of them in its turn, to be written by who ranges over it.
func written[T any](w *writer, row []T) iter.Seq[T] {
	return func(yield func(T) bool) {
		w.number(len(row))
		for _, one := range row {
			if !yield(one) {
				return
			}
		}
	}
}

// symbols writes right ones.
func (w *writer) symbols(s api.Sym) {
	w.text(s.Name)
	for c := range written(w, s.Consts) {
		w.constant(c)
	}
	for v := range written(w, s.Vars) {
		w.text(v.Name)
		w.octet(v.Form)
		w.number(v.Len)
	}
	for p := range written(w, s.Procs) {
		w.text(p.Name)
		for v := range written(w, p.Params) {
			w.octet(v.Form)
			w.octet(bitsOf(v))
		}
		w.octet(p.Result)
	}
}

func (w *writer) constant(c api.Const) {
	w.text(c.Name)
	w.octet(c.Type)
	if c.Type == api.String {
		w.text(c.S)
		return
	}
	w.word(uint32(c.N))
}

func bitsOf(v api.SymVar) int {
	bits := 0
	if v.Open {
		bits |= openBit
	}
	if v.Ref {
		bits |= refBit
	}
	return bits
}

// reader takes one thing after the other, until one is none: there it is stuck, and every further one is its zero value.
type reader struct {
	b     []byte
	at    int
	stuck bool
}

// pass goes on behind a thing, if it was one that may stand there: may it be taken?
func (r *reader) pass(behind int, ok bool) bool {
	if r.stuck || !ok {
		r.stuck = true
		return false
	}
	r.at = behind
	return true
}

func (r *reader) number(most uint32) int {
	n, behind, ok := obj.Uint(r.b, r.at)
	if !r.pass(behind, ok && n <= most) {
		return 0
	}
	return int(n)
}

func (r *reader) text(most int) string {
	s, behind, ok := obj.Text(r.b, r.at, most)
	if !r.pass(behind, ok) {
		return ""
	}
	return s
}

func (r *reader) name() string { return r.text(api.MaxName) }

func (r *reader) word() uint32 {
	x, ok := word.Get(r.b, r.at)
	if !r.pass(r.at+wordBytes, ok) {
		return 0
	}
	return x
}

// octet takes a byte that may be there.
func (r *reader) octet(may func(int) bool) int {
	at := r.at
	if !r.pass(at+1, at < len(r.b) && may(int(r.b[at]))) {
		return 0
	}
	return int(r.b[at])
}

// readRow reads how many things there are, at most so many, and each of them.
func readRow[T any](r *reader, most uint32, read func() T) []T {
	var row []T
	for range r.number(most) {
		one := read()
		if r.stuck {
			return nil
		}
		row = append(row, one)
	}
	return row
}

// symbols reads what may or may not be right.
func (r *reader) symbols() api.Sym {
	return api.Sym{
		Name:   r.name(),
		Consts: readRow(r, api.MaxVars, r.constant),
		Vars:   readRow(r, api.MaxVars, r.variable),
		Procs:  readRow(r, api.MaxProcs, r.procedure),
	}
}

func (r *reader) constant() api.Const {
	c := api.Const{Name: r.name(), Type: r.octet(isConstForm), Export: true}
	switch c.Type {
	case api.String:
		c.S = r.text(api.MaxStr)
	case api.Integer:
		c.N = int64(word.Sext(r.word(), wordBits))
	default:
		c.N = int64(r.word())
	}
	return c
}

func (r *reader) variable() api.SymVar {
	return api.SymVar{Name: r.name(), Form: r.octet(isPlain), Len: r.number(math.MaxUint32)}
}

func (r *reader) procedure() api.SymProc {
	return api.SymProc{Name: r.name(), Params: readRow(r, api.MaxParams, r.parameter), Result: r.octet(isResult)}
}

func (r *reader) parameter() api.SymVar {
	form := r.octet(isPlain)
	bits := r.octet(func(n int) bool { return n <= maxBits })
	return api.SymVar{Form: form, Open: bits&openBit != 0, Ref: bits&refBit != 0}
}
