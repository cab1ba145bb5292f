package sem

import "carrel/api"

// run is one under way.
type run struct {
	input string // what is not taken yet
	out   []byte
	fuel  int64
	heap  []record
	given int // bytes of the heap
	calls int // under way
	now   frame
	begun []*api.Expr // those that wait for their first Kids
	depth int
}

// record is one that NEW gave.
type record struct {
	of    int // its type's place; pointers don't leave their module, so that it is clear in which one
	bytes []byte
}

// frame is where names have their meaning: a module, and the variables of a procedure's call.
type frame struct {
	in   *module
	vars []variable
}

// modules runs all of them. Here ends what stopped deep within them; if that was no end of a run, check has not answered these modules (false).
func (r *run) modules(l []*module) (end api.End, ok bool) {
	defer func() {
		if stop := recover(); stop != nil {
			end, ok = stop.(api.End)
		}
	}()
	for _, m := range l {
		r.now = frame{in: m}
		r.block(m.mod.Init)
	}
	return api.End{Kind: api.EndHalt}, true
}

// pay takes fuel, and stops the run, where there is less.
func (r *run) pay(n int64) {
	if r.fuel < n {
		r.fuel = 0
		panic(api.End{Kind: api.EndBudget})
	}
	r.fuel -= n
}

// must traps, unless something holds.
func must(holds bool, trap int) {
	if !holds {
		panic(api.End{Kind: api.EndTrap, Trap: trap})
	}
}

// mostDeep is far more than what check answers ever needs, and far less than what a stack bears.
const mostDeep = 1 << 16

func (r *run) enter() {
	r.depth++
	if r.depth > mostDeep {
		panic(api.ErrSemForm)
	}
}

func (r *run) leave() { r.depth-- }

func (r *run) emit(c character) {
	if len(r.out) < api.MaxOut {
		r.out = append(r.out, byte(c))
	}
}

func (r *run) take() character {
	if r.input == "" {
		panic(api.End{Kind: api.EndWait})
	}
	c := r.input[0]
	r.input = r.input[1:]
	return character(c)
}

// newRecord is NEW's, for a pointer of a type.
func (r *run) newRecord(t int) pointer {
	m := r.now.in
	of := m.mod.Types[t].Elem
	size := m.size(of)
	r.pay(words(size))
	must(r.given+size+wordBytes <= api.MaxHeap, api.TrapHeap)
	r.given += size + wordBytes
	r.heap = append(r.heap, record{of, make([]byte, size)})
	return pointer(len(r.heap))
}

// recordOf is what a pointer points to.
func (r *run) recordOf(p pointer) record {
	must(p != 0, api.TrapNil)
	return r.heap[p-1]
}
