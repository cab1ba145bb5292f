package link

import (
	"carrel/api"
	"carrel/obj"
)

// whole is objects that fit together.
type whole struct {
	objects []api.Object
	places  map[string]int // of the objects, by their names
	entries [][]int        // of each object the places of the procedures that it exports
	order   []int          // in which their modules begin
}

// gather asks of objects whether they fit together.
func gather(l []api.Object) (*whole, error) {
	if len(l) < 1 || len(l) > api.MaxModules {
		return nil, misfit{why: api.ErrArg}
	}
	for _, o := range l {
		if !obj.Right(o) {
			return nil, misfit{api.ErrLinkObject, o.Name}
		}
	}
	w := &whole{objects: l, places: map[string]int{}}
	for _, step := range []func() error{w.name, w.importsFit, w.arrange} {
		if err := step(); err != nil {
			return nil, err
		}
	}
	return w, nil
}

// name notes where each object stands, and what others may call of it.
func (w *whole) name() error {
	for place, o := range w.objects {
		if _, twice := w.places[o.Name]; twice {
			return misfit{api.ErrLinkTwice, o.Name}
		}
		w.places[o.Name] = place
		w.entries = append(w.entries, exported(o))
	}
	return nil
}

func exported(o api.Object) []int {
	var l []int
	for place, is := range o.Exports {
		if is {
			l = append(l, place)
		}
	}
	return l
}

// importsFit: is each import there, as it was when it was imported?
func (w *whole) importsFit() error {
	for _, o := range w.objects {
		for _, one := range o.Imports {
			place, there := w.places[one.Name]
			if !there {
				return misfit{api.ErrLinkNone, one.Name}
			}
			if w.objects[place].Key != one.Key {
				return misfit{api.ErrLinkKey, one.Name}
			}
		}
	}
	return nil
}

// arrange finds the order.
func (w *whole) arrange() error {
	done := make([]bool, len(w.objects))
	for range w.objects {
		next, ok := w.next(done)
		if !ok {
			break
		}
		done[next] = true
		w.order = append(w.order, next)
	}
	for place, is := range done {
		if !is {
			return misfit{api.ErrLinkCycle, w.objects[place].Name}
		}
	}
	return nil
}

// next is the first object that is not done, but whose imports all are.
func (w *whole) next(done []bool) (int, bool) {
	for place, o := range w.objects {
		if !done[place] && w.importsDone(o, done) {
			return place, true
		}
	}
	return 0, false
}

func (w *whole) importsDone(o api.Object, done []bool) bool {
	for _, one := range o.Imports {
		if !done[w.places[one.Name]] {
			return false
		}
	}
	return true
}
