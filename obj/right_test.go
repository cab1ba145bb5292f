package obj

import (
	"math"
	"strings"
	"testing"

	"carrel/api"
)

// rightCase is a change of the sample, and whether it is right behind it.
type rightCase struct {
	what   string
	right  bool
	change func(o *api.Object)
}

func rightCases() []rightCase {
	var all []rightCase
	for _, some := range [][]rightCase{nameCases(), codeCases(), procCases(), dataCases(), descCases(), fixCases()} {
		all = append(all, some...)
	}
	return all
}

func TestRight(t *testing.T) { // P7.2
	if !Right(sample()) || Right(api.Object{}) || !Right(api.Object{Name: "A", Code: []uint32{0}}) {
		t.Error("the sample, nothing, the least one")
	}
	for _, x := range rightCases() {
		o := sample()
		x.change(&o)
		if Right(o) != x.right || plainRight(o) != x.right {
			t.Errorf("%s: %v, plainly %v; want %v", x.what, Right(o), plainRight(o), x.right)
		}
	}
}

func nameCases() []rightCase {
	var out []rightCase
	set := map[string]func(*api.Object, string){
		"Name":   func(o *api.Object, s string) { o.Name = s },
		"Import": func(o *api.Object, s string) { o.Imports[1].Name = s },
		"Names":  func(o *api.Object, s string) { o.Names[2] = s },
	}
	for what, set := range set {
		for _, s := range []string{"a", "z", "A", "Z", "a0", "Z9", "aZ09", strings.Repeat("k", 20)} {
			out = append(out, rightCase{what + " " + s, true, func(o *api.Object) { set(o, s) }})
		}
		for _, s := range []string{
			"", "0", "9a", "_", "a_", "a.b", " a", "a ", "@", "[", "`", "{", "a@", "a[", "a`", "a{", "a/", "a:", "ä", "a\x00", "a\xFF", strings.Repeat("k", 21),
		} {
			out = append(out, rightCase{what + " " + s, false, func(o *api.Object) { set(o, s) }})
		}
	}
	return append(out,
		rightCase{"an import of itself", false, func(o *api.Object) { o.Imports[0].Name = o.Name }},
		rightCase{"an import twice", false, func(o *api.Object) { o.Imports[1].Name = o.Imports[0].Name }},
		rightCase{"an import that differs in a letter's case", true, func(o *api.Object) { o.Imports[1].Name = "in" }},
		rightCase{"keys alike", true, func(o *api.Object) { o.Imports[1].Key, o.Imports[0].Key = o.Key, o.Key }},
		rightCase{"16 imports", true, func(o *api.Object) { o.Imports = imports(16) }},
		rightCase{"17 imports", false, func(o *api.Object) { o.Imports = imports(17) }},
	)
}

// letters is a name for each number from 0 to 519, no two the same.
func letters(n int) string { return strings.Repeat(string(rune('a'+n%26)), n/26+1) }

func imports(n int) []api.Import {
	var out []api.Import
	for i := range n {
		out = append(out, api.Import{Name: letters(i)})
	}
	return out
}

func codeCases() []rightCase {
	return []rightCase{
		{"no code", false, func(o *api.Object) { *o = api.Object{Name: "A"} }},
		{"no code, one that begins nowhere", false, func(o *api.Object) { o.Code = nil }},
		{"65536 words", true, func(o *api.Object) { o.Code = make([]uint32, 65536) }},
		{"65537 words", false, func(o *api.Object) { o.Code = make([]uint32, 65537) }},
		{"Init first", true, func(o *api.Object) { o.Init = 0 }},
		{"Init last", true, func(o *api.Object) { o.Init = 7 }},
		{"Init behind", false, func(o *api.Object) { o.Init = 8 }},
		{"Init ahead", false, func(o *api.Object) { o.Init = -1 }},
		{"Init far behind", false, func(o *api.Object) { o.Init = math.MaxInt }},
		{"Init far ahead", false, func(o *api.Object) { o.Init = math.MinInt }},
	}
}

func procs(o *api.Object, n int) {
	o.Procs, o.Names, o.Exports = make([]int, n), nil, make([]bool, n)
	for i := range n {
		o.Names = append(o.Names, letters(i))
	}
}

func procCases() []rightCase {
	return []rightCase{
		{"100 procedures", true, func(o *api.Object) { procs(o, 100) }},
		{"101 procedures", false, func(o *api.Object) { procs(o, 101) }},
		{"three procedures", true, func(o *api.Object) { procs(o, 3) }},
		{"too few for a fix", false, func(o *api.Object) { procs(o, 2) }},
		{"fewer Procs", false, func(o *api.Object) { procs(o, 4); o.Procs = o.Procs[1:] }},
		{"fewer Names", false, func(o *api.Object) { procs(o, 4); o.Names = o.Names[1:] }},
		{"fewer Exports", false, func(o *api.Object) { procs(o, 4); o.Exports = o.Exports[1:] }},
		{"more Names", false, func(o *api.Object) { o.Names = append(o.Names, "z") }},
		{"more Exports", false, func(o *api.Object) { o.Exports = append(o.Exports, true) }},
		{"a procedure at the end", true, func(o *api.Object) { o.Procs[0] = 7 }},
		{"a procedure behind the end", false, func(o *api.Object) { o.Procs[0] = 8 }},
		{"a procedure ahead", false, func(o *api.Object) { o.Procs[2] = -1 }},
		{"procedures at one place", true, func(o *api.Object) { o.Procs[0], o.Procs[1], o.Procs[2] = 1, 1, 1 }},
		{"a name twice", false, func(o *api.Object) { o.Names[2] = o.Names[0] }},
		{"the last name twice", false, func(o *api.Object) { o.Names[2] = o.Names[1] }},
		{"an import's name", true, func(o *api.Object) { o.Names[2] = "In" }},
		{"none is exported", true, func(o *api.Object) { o.Exports = make([]bool, 3) }},
	}
}

func vars(n int) []int {
	out := make([]int, n)
	for i := range out {
		out[i] = 1
	}
	return out
}

func rising(n int) []int {
	out := make([]int, n)
	for i := range out {
		out[i] = i
	}
	return out
}

func dataCases() []rightCase {
	return []rightCase{
		{"200 variables", true, func(o *api.Object) { o.Vars = vars(200) }},
		{"201 variables", false, func(o *api.Object) { o.Vars = vars(201) }},
		{"a variable of 1 byte", true, func(o *api.Object) { o.Vars[3] = 1 }},
		{"a variable of no byte", false, func(o *api.Object) { o.Vars[3] = 0 }},
		{"a variable of -1 bytes", false, func(o *api.Object) { o.Vars[0] = -1 }},
		{"a variable of 16384 bytes", true, func(o *api.Object) { o.Vars[0] = 16384 }},
		{"a variable of 16385 bytes", false, func(o *api.Object) { o.Vars[0] = 16385 }},
		{"too few variables for a fix", false, func(o *api.Object) { o.Vars, o.Shown = vars(3), nil }},
		{"200 shown", true, func(o *api.Object) { o.Vars, o.Shown = vars(200), rising(200) }},
		{"201 shown", false, func(o *api.Object) { o.Vars, o.Shown = vars(200), rising(201) }},
		{"all shown", true, func(o *api.Object) { o.Shown = rising(4) }},
		{"one is shown that is not there", false, func(o *api.Object) { o.Shown = []int{4} }},
		{"one below 0 is shown", false, func(o *api.Object) { o.Shown = []int{-1} }},
		{"one is shown twice", false, func(o *api.Object) { o.Shown = []int{1, 1} }},
		{"shown that fall", false, func(o *api.Object) { o.Shown = []int{0, 2, 1} }},
		{"shown of no variables", false, func(o *api.Object) { o.Fixes, o.Vars, o.Shown = nil, nil, []int{0} }},
		{"200 strings", true, func(o *api.Object) { o.Strings = make([]string, 200) }},
		{"201 strings", false, func(o *api.Object) { o.Strings = make([]string, 201) }},
		{"strings alike", true, func(o *api.Object) { o.Strings[0], o.Strings[1] = "a", "a" }},
		{"a string of 200 bytes", true, func(o *api.Object) { o.Strings[0] = strings.Repeat("\x00", 200) }},
		{"a string of 201 bytes", false, func(o *api.Object) { o.Strings[0] = strings.Repeat("\x00", 201) }},
		{"200 letters of two bytes", false, func(o *api.Object) { o.Strings[0] = strings.Repeat("ä", 200) }},
		{"too few strings for a fix", false, func(o *api.Object) { o.Strings = o.Strings[:2] }},
	}
}

// descs are descriptors of types from the first one on.
func descs(first, n int) []api.Desc {
	var out []api.Desc
	for i := range n {
		out = append(out, api.Desc{Type: first + i, Tags: []int{first + i}})
	}
	return out
}

func descCases() []rightCase {
	lay := func(d ...api.Desc) func(*api.Object) {
		return func(o *api.Object) { o.Fixes, o.Descs = nil, d }
	}
	eight, nine := api.Desc{Type: 8, Tags: []int{8}}, api.Desc{Type: 9, Tags: []int{9}}
	size := func(n int) func(*api.Object) { return lay(api.Desc{Type: 8, Size: n, Tags: []int{8}}) }
	tags := func(n ...int) func(*api.Object) { return lay(eight, api.Desc{Type: 9, Tags: n}) }
	return []rightCase{
		{"no descriptor", true, lay()},
		{"192 descriptors", true, lay(descs(8, 192)...)},
		{"193 descriptors, from 7 on", false, lay(descs(7, 193)...)},
		{"193 descriptors, up to 200", false, lay(descs(8, 193)...)},
		{"201 descriptors", false, lay(descs(0, 201)...)},
		{"the type 7", false, lay(descs(7, 1)...)}, {"the type 0", false, lay(descs(0, 1)...)}, {"the type -8", false, lay(descs(-8, 1)...)},
		{"the type 199", true, lay(descs(199, 1)...)}, {"the type 200", false, lay(descs(200, 1)...)},
		{"rising", true, lay(eight, nine)}, {"falling", false, lay(nine, eight)}, {"a type twice", false, lay(eight, nine, nine)},
		{"0 bytes", true, size(0)}, {"4 bytes", true, size(4)}, {"16384 bytes", true, size(16384)},
		{"-4 bytes", false, size(-4)}, {"1 byte", false, size(1)}, {"2 bytes", false, size(2)}, {"16382 bytes", false, size(16382)}, {"16388 bytes", false, size(16388)}, {"the fewest bytes", false, size(math.MinInt)},
		{"no tag", false, tags()}, {"one tag", true, tags(9)}, {"two tags", true, tags(8, 9)}, {"four tags", true, tags(8, 9, 8, 9)}, {"five tags", false, tags(8, 8, 8, 8, 9)},
		{"another last tag", false, tags(9, 8)}, {"one other tag", false, tags(8)}, {"a tag of no descriptor", false, tags(10, 9)}, {"a tag below", false, tags(7, 9)}, {"the tag 0", false, tags(0, 9)}, {"a tag below 0", false, tags(-1, 9)},
		{"a tag of a type behind", true, lay(api.Desc{Type: 8, Tags: []int{9, 8}}, nine)},
		{"a first type with a wrong last tag", false, lay(api.Desc{Type: 8, Tags: []int{9}}, nine)},
		{"a descriptor less than a fix asks for", false, func(o *api.Object) { o.Descs = o.Descs[:2] }},
	}
}

func fixCases() []rightCase {
	lay := func(f ...api.Fix) func(*api.Object) { return func(o *api.Object) { o.Fixes = f } }
	fix := func(at, kind, m, n int) func(*api.Object) { return lay(api.Fix{At: at, Kind: kind, M: m, N: n}) }
	many := func(n int) func(*api.Object) {
		return func(o *api.Object) {
			o.Code, o.Fixes = make([]uint32, 65536), make([]api.Fix, n)
			for i := range o.Fixes {
				o.Fixes[i] = api.Fix{At: i, Kind: api.FixProc, M: -1, N: 0}
			}
		}
	}
	out := []rightCase{
		{"no fix", true, lay()},
		{"65536 fixes", true, many(65536)}, {"65537 fixes", false, many(65537)},
		{"no kind", false, fix(0, 0, -1, 0)}, {"the kind 6", false, fix(0, 6, -1, 0)}, {"the kind -1", false, fix(0, -1, -1, 0)}, {"the kind 257", false, fix(0, 257, -1, 0)}, {"no kind of an import", false, fix(0, 0, 0, 0)},
		{"fixes that rise", true, lay(api.Fix{At: 1, Kind: 1, M: -1}, api.Fix{At: 2, Kind: 1, M: -1})},
		{"two fixes at a place", false, lay(api.Fix{At: 1, Kind: 1, M: -1}, api.Fix{At: 1, Kind: 1, M: 0})},
		{"fixes that fall", false, lay(api.Fix{At: 0, Kind: 1, M: -1}, api.Fix{At: 2, Kind: 1, M: -1}, api.Fix{At: 1, Kind: 1, M: -1})},
		{"a string of an import", false, fix(0, api.FixStr, 0, 0)}, {"a descriptor of an import", false, fix(0, api.FixDesc, 0, 8)},
		{"a descriptor of no record", false, fix(0, api.FixDesc, -1, 9)}, {"the descriptor 0", false, fix(0, api.FixDesc, -1, 0)}, {"the descriptor -1", false, fix(0, api.FixDesc, -1, -1)}, {"the descriptor 10", true, fix(0, api.FixDesc, -1, 10)}, {"the descriptor 200", false, fix(0, api.FixDesc, -1, 200)},
	}
	for _, x := range []struct {
		kind             int
		what             string
		last             int // the greatest At
		first, own, most int // N: the least one, how many of the module's own, of another one's
	}{
		{api.FixProc, "FixProc", 7, 0, 3, 100}, {api.FixEntry, "FixEntry", 6, 0, 3, 100}, {api.FixVar, "FixVar", 6, 0, 4, 200},
		{api.FixStr, "FixStr", 6, 0, 3, 0}, {api.FixDesc, "FixDesc", 6, 8, 9, 0},
	} {
		out = append(out,
			rightCase{x.what + " first", true, fix(0, x.kind, -1, x.first)},
			rightCase{x.what + " last", true, fix(x.last, x.kind, -1, x.own-1)},
			rightCase{x.what + " behind", false, fix(x.last+1, x.kind, -1, x.first)},
			rightCase{x.what + " ahead", false, fix(-1, x.kind, -1, x.first)},
			rightCase{x.what + " of more than there are", false, fix(0, x.kind, -1, x.own)},
			rightCase{x.what + " of fewer than none", false, fix(0, x.kind, -1, -1)},
			rightCase{x.what + " of the second import", x.most > 0, fix(0, x.kind, 1, max(x.most-1, x.first))},
			rightCase{x.what + " of an import, too many", false, fix(0, x.kind, 1, x.most)},
			rightCase{x.what + " of an import, too few", false, fix(0, x.kind, 1, -1)},
			rightCase{x.what + " of the third import", false, fix(0, x.kind, 2, x.first)},
			rightCase{x.what + " of the import -2", false, fix(0, x.kind, -2, x.first)},
		)
	}
	return out
}
