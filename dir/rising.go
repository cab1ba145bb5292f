package dir

import (
	"cmp"
	"slices"
)

// rising has things by rising order, none of them twice. None is written into once it is made: so two may share memory, and a change that is given up leaves no trace.
type rising[T cmp.Ordered] []T

// upTo are all numbers from 0 on, so many.
func upTo(many int) rising[int] {
	r := make(rising[int], many)
	for n := range r {
		r[n] = n
	}
	return r
}

// with is one that has some more.
func (r rising[T]) with(some ...T) rising[T] {
	all := slices.Concat(r, some)
	slices.Sort(all)
	return slices.Compact(all)
}

// without is one that has some less; false: it has not all of them, or one stands among them twice.
func (r rising[T]) without(some ...T) (rising[T], bool) {
	left := slices.Clone(r)
	for _, one := range some {
		at, there := slices.BinarySearch(left, one)
		if !there {
			return nil, false
		}
		left = slices.Delete(left, at, at+1)
	}
	return left, true
}

// least are so many of its things, and one that has the others; false: it has not so many.
func (r rising[T]) least(many int) ([]T, rising[T], bool) {
	if many > len(r) {
		return nil, nil, false
	}
	return r[:many], r[many:], true
}
