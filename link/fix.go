package link

import (
	"cmp"
	"slices"

	"carrel/api"
	"carrel/cpu"
)

const ownModule = -1 // a fix's M that names the object itself

// thing is what a fix names.
type thing struct {
	object int // in the list
	kind   int // the fix's
	place  int // in the object's Procs, Vars, Strings or Descs
}

// find tells what a fix of an object names, if it is there.
func (w *whole) find(object int, f api.Fix) (thing, bool) {
	o := w.objects[object]
	if f.M == ownModule {
		place := f.N
		if f.Kind == api.FixDesc {
			place = descPlace(o.Descs, f.N)
		}
		return thing{object, f.Kind, place}, true // what is right names things of its own that are there
	}
	other := w.places[o.Imports[f.M].Name]
	shown := w.entries[other]
	if f.Kind == api.FixVar {
		shown = w.objects[other].Shown
	}
	if f.N >= len(shown) {
		return thing{}, false
	}
	return thing{other, f.Kind, shown[f.N]}, true
}

// descPlace is the place of the descriptor of a type that has one.
func descPlace(descs []api.Desc, t int) int {
	place, _ := slices.BinarySearchFunc(descs, t, func(d api.Desc, t int) int { return cmp.Compare(d.Type, t) })
	return place
}

// fixesFit: is all there that fixes name, and are the words such that they may be filled in?
func (w *whole) fixesFit() error {
	for object, o := range w.objects {
		for _, f := range o.Fixes {
			if _, there := w.find(object, f); !there || !takes(o.Code[f.At:], f.Kind) {
				return misfit{api.ErrLinkFix, o.Name}
			}
		}
	}
	return nil
}

// takes: are the first words of some code such as a fix of that kind fills in?
func takes(code []uint32, kind int) bool {
	first, ok := cpu.Decode(code[0])
	if !ok {
		return false
	}
	if kind == api.FixProc {
		return first.Format == api.FBranch && first.U
	}
	next, ok := cpu.Decode(code[1])
	next.N = 0
	return ok && first.Format == api.FImm && first.Op == api.MOV && first.U &&
		next == api.Instr{Format: api.FImm, Op: api.IOR, A: first.A, B: first.A}
}

const (
	halfBits = 16
	halfOnes = 1<<halfBits - 1
)

// fill fills in one fix's words, which stand at an address, for a thing at another one.
func fill(code []uint32, kind, here, there int) {
	if kind == api.FixProc {
		code[0] = withN(code[0], wordsToGo(here, there))
		return
	}
	code[0] = withN(code[0], there>>halfBits)
	code[1] = withN(code[1], there&halfOnes)
}

// wordsToGo is how many words a branch at an address goes on, to another one.
func wordsToGo(here, there int) int { return (there - here - wordBytes) / wordBytes }

// withN is an instruction with another N, of those that it may have.
func withN(w uint32, n int) uint32 {
	i, _ := cpu.Decode(w)
	i.N = n
	w, _ = cpu.Encode(i)
	return w
}
