package obj

import (
	"cmp"
	"slices"

	"carrel/api"
)

const (
	firstType = api.String + 1   // those below are the same in each module, and no records
	maxTags   = api.MaxLevel + 1 // a record, and all that it extends
	sizeStep  = 4                // records' sizes are multiples of it
	ownModule = -1               // a fix's M that names the module itself
)

// Right: is it an object that may be? (Its bytes are not counted: with the most of everything they are fewer than MaxObject.)
func Right(o api.Object) bool {
	return headRight(o) && procsRight(o) && dataRight(o) && descsRight(o.Descs) && fixesRight(o)
}

// each: are there at most so many, and is each one right?
func each[T any](row []T, most int, right func(place int, one T) bool) bool {
	if len(row) > most {
		return false
	}
	for place, one := range row {
		if !right(place, one) {
			return false
		}
	}
	return true
}

// from0: is a number 0 or more, and less than the end?
func from0(n, end int) bool { return 0 <= n && n < end }

func isLetter(c byte) bool { return 'a' <= c && c <= 'z' || 'A' <= c && c <= 'Z' }

func isDigit(c byte) bool { return '0' <= c && c <= '9' }

// isName: is it a NAME?
func isName(s string) bool {
	if len(s) < 1 || len(s) > api.MaxName || !isLetter(s[0]) {
		return false
	}
	for i := range len(s) {
		if !isLetter(s[i]) && !isDigit(s[i]) {
			return false
		}
	}
	return true
}

// newNames makes a function that says of one text after the other: is it a NAME, and none that was there before?
func newNames() func(string) bool {
	seen := map[string]struct{}{}
	return func(s string) bool {
		if _, again := seen[s]; again || !isName(s) {
			return false
		}
		seen[s] = struct{}{}
		return true
	}
}

// headRight looks at Name, Imports, and how long Code is.
func headRight(o api.Object) bool {
	isNew := newNames()
	return isNew(o.Name) &&
		each(o.Imports, api.MaxImports, func(_ int, one api.Import) bool { return isNew(one.Name) }) &&
		1 <= len(o.Code) && len(o.Code) <= api.MaxCode
}

// procsRight looks at Procs, Names, Exports and Init.
func procsRight(o api.Object) bool {
	if len(o.Names) != len(o.Procs) || len(o.Exports) != len(o.Procs) {
		return false
	}
	isNew := newNames()
	return from0(o.Init, len(o.Code)) && each(o.Procs, api.MaxProcs, func(place int, where int) bool {
		return from0(where, len(o.Code)) && isNew(o.Names[place])
	})
}

// dataRight looks at Vars, Shown and Strings.
func dataRight(o api.Object) bool {
	size := func(_ int, n int) bool { return 1 <= n && n <= api.MaxSize }
	shown := func(place int, n int) bool {
		return from0(n, len(o.Vars)) && (place == 0 || o.Shown[place-1] < n)
	}
	short := func(_ int, s string) bool { return len(s) <= api.MaxStr }
	return each(o.Vars, api.MaxVars, size) && each(o.Shown, api.MaxVars, shown) && each(o.Strings, api.MaxVars, short)
}

func descsRight(descs []api.Desc) bool {
	return each(descs, api.MaxTypes, func(place int, d api.Desc) bool {
		return firstType <= d.Type && d.Type < api.MaxTypes &&
			(place == 0 || descs[place-1].Type < d.Type) &&
			0 <= d.Size && d.Size <= api.MaxSize && d.Size%sizeStep == 0 &&
			tagsRight(descs, d)
	})
}

func tagsRight(descs []api.Desc, d api.Desc) bool {
	tag := func(_ int, t int) bool { return described(descs, t) }
	return len(d.Tags) > 0 && each(d.Tags, maxTags, tag) && d.Tags[len(d.Tags)-1] == d.Type
}

// described: is it the Type of one of these? (If they do not rise, one may be missed: but then they are not right whatever is said here.)
func described(descs []api.Desc, t int) bool {
	_, ok := slices.BinarySearchFunc(descs, t, func(d api.Desc, t int) int { return cmp.Compare(d.Type, t) })
	return ok
}

func fixesRight(o api.Object) bool {
	return each(o.Fixes, api.MaxFixes, func(place int, f api.Fix) bool {
		return from0(f.At, len(o.Code)-wordsBehind(f)) &&
			(place == 0 || o.Fixes[place-1].At < f.At) &&
			(f.M == ownModule || from0(f.M, len(o.Imports))) &&
			namesThing(o, f)
	})
}

// wordsBehind is how many words stand behind the one at a fix's place that are filled in with it: a branch is one word, an address takes two.
func wordsBehind(f api.Fix) int {
	if f.Kind == api.FixProc {
		return 0
	}
	return 1
}

// namesThing: does a fix's N name a thing that may be, of its Kind and in its module?
func namesThing(o api.Object, f api.Fix) bool {
	own := f.M == ownModule
	switch f.Kind {
	case api.FixProc, api.FixEntry:
		return from0(f.N, oneOf(own, len(o.Procs), api.MaxProcs))
	case api.FixVar:
		return from0(f.N, oneOf(own, len(o.Vars), api.MaxVars))
	case api.FixStr:
		return own && from0(f.N, len(o.Strings))
	case api.FixDesc:
		return own && described(o.Descs, f.N)
	}
	return false
}

// oneOf is how many things N may name: those of the module itself, or as many as any other one may show.
func oneOf(own bool, here, elsewhere int) int {
	if own {
		return here
	}
	return elsewhere
}
