package sym

import (
	"math"
	"strconv"
	"strings"
	"testing"

	"carrel/api"
)

// rightCase is a change of the sample, and whether it is right behind it.
type rightCase struct {
	what   string
	right  bool
	change func(s *api.Sym)
}

func rightCases() []rightCase {
	var all []rightCase
	for _, some := range [][]rightCase{nameCases(), twiceCases(), manyCases(), constCases(), varCases(), procCases()} {
		all = append(all, some...)
	}
	return all
}

func TestRight(t *testing.T) { // P13.2
	if !Right(sample()) || !Right(greatest()) || Right(api.Sym{}) || !Right(api.Sym{Name: "A"}) {
		t.Error("the sample, the greatest, nothing, the least")
	}
	for _, x := range rightCases() {
		s := sample()
		x.change(&s)
		if Right(s) != x.right || plainRight(s) != x.right {
			t.Errorf("%s: %v, plainly %v; want %v", x.what, Right(s), plainRight(s), x.right)
		}
	}
}

func nameCases() []rightCase {
	var out []rightCase
	set := map[string]func(*api.Sym, string){
		"Name":         func(s *api.Sym, name string) { s.Name = name },
		"first Const":  func(s *api.Sym, name string) { s.Consts[0].Name = name },
		"last Const":   func(s *api.Sym, name string) { s.Consts[5].Name = name },
		"first Var":    func(s *api.Sym, name string) { s.Vars[0].Name = name },
		"last Var":     func(s *api.Sym, name string) { s.Vars[2].Name = name },
		"first Proc":   func(s *api.Sym, name string) { s.Procs[0].Name = name },
		"another Proc": func(s *api.Sym, name string) { s.Procs[2].Name = name },
	}
	for what, f := range set {
		add := func(name string, right bool) {
			out = append(out, rightCase{what + " " + strconv.Quote(name), right, func(s *api.Sym) { f(s, name) }})
		}
		for _, name := range []string{"A", "Z", "a0", "z9", "Zz", "zZ", "MODULE", "SYSTEM", "INTEGER", strings.Repeat("Y", 20)} {
			add(name, true)
		}
		for _, name := range []string{"", "0", "9a", "_", "a_", "a.b", " a", "a ", "a\x00", "@", "[", "`", "{", "a@", "a[", "a`", "a{", "a/", "a:", "\xE4", "ä", strings.Repeat("Y", 21), strings.Repeat("Y", 300)} {
			add(name, false)
		}
	}
	return out
}

func twiceCases() []rightCase {
	return []rightCase{
		{"two Consts of a name", false, func(s *api.Sym) { s.Consts[5].Name = "n" }},
		{"two Vars of a name", false, func(s *api.Sym) { s.Vars[2].Name = "x" }},
		{"two Procs of a name", false, func(s *api.Sym) { s.Procs[2].Name = "P" }},
		{"a Const and a Var of a name", false, func(s *api.Sym) { s.Vars[0].Name = "a2345678901234567890" }},
		{"a Const and a Proc of a name", false, func(s *api.Sym) { s.Procs[2].Name = "n" }},
		{"a Var and a Proc of a name", false, func(s *api.Sym) { s.Procs[0].Name = "Mod1" }},
		{"names that differ in case alone", true, func(s *api.Sym) { s.Procs[0].Name = "N" }},
		{"a Const of the module's name", true, func(s *api.Sym) { s.Name = "n" }},
		{"a Proc of the module's name", true, func(s *api.Sym) { s.Name = "q9" }},
	}
}

func manyCases() []rightCase {
	var out []rightCase
	add := func(what string, most int, set func(s *api.Sym, n int)) {
		for _, n := range []int{0, 1, most - 1, most, most + 1, 5 * most} {
			out = append(out, rightCase{strconv.Itoa(n) + " " + what, n <= most, func(s *api.Sym) { set(s, n) }})
		}
	}
	add("Consts", 200, func(s *api.Sym, n int) {
		s.Consts = nil
		for i := range n {
			s.Consts = append(s.Consts, api.Const{Name: "k" + strconv.Itoa(i), Type: api.Char, Export: true})
		}
	})
	add("Vars", 200, func(s *api.Sym, n int) { // of all together any size may be
		s.Vars = nil
		for i := range n {
			s.Vars = append(s.Vars, api.SymVar{Name: "v" + strconv.Itoa(i), Form: api.Char, Len: api.MaxSize})
		}
	})
	add("Procs", 100, func(s *api.Sym, n int) {
		s.Procs = nil
		for i := range n {
			s.Procs = append(s.Procs, api.SymProc{Name: "p" + strconv.Itoa(i)})
		}
	})
	for which := range 3 {
		add("Params", 8, func(s *api.Sym, n int) {
			s.Procs[which].Params = nil
			for range n {
				s.Procs[which].Params = append(s.Procs[which].Params, api.SymVar{Form: api.Set, Ref: true})
			}
		})
	}
	return out
}

func constCases() []rightCase {
	var out []rightCase
	add := func(what string, right bool, c api.Const) {
		out = append(out, rightCase{what + " " + strconv.Itoa(c.Type) + " " + strconv.FormatInt(c.N, 10), right, func(s *api.Sym) { s.Consts[5] = c }})
	}
	for _, x := range []struct {
		form        int
		least, most int64
	}{
		{api.Integer, -1 << 31, 1<<31 - 1}, {api.Boolean, 0, 1}, {api.Char, 0, 255}, {api.Set, 0, 1<<32 - 1}, {api.String, 0, 0},
	} {
		one := func(n int64) api.Const { return api.Const{Name: "k", Type: x.form, N: n, Export: true} }
		add("the least", true, one(x.least))
		add("the greatest", true, one(x.most))
		for _, n := range []int64{x.least - 1, x.most + 1, x.least - 1<<32, x.most + 1<<32, math.MinInt64, math.MaxInt64} {
			add("outside", false, one(n))
		}
		hidden := one(0)
		hidden.Export = false
		add("not exported", false, hidden)
		said := one(0)
		said.S = "s"
		add("with a text", x.form == api.String, said)
	}
	for _, form := range []int{math.MinInt, -1, api.NoType, api.Byte, api.Nil, api.Array, api.Open, api.Record, api.Pointer, 257, 1<<32 + 1, math.MaxInt} {
		add("no constant's Type", false, api.Const{Name: "k", Type: form, Export: true})
	}
	for n, right := range map[int]bool{1: true, 200: true, 201: false, 70000: false} {
		c := api.Const{Name: "k", Type: api.String, S: strings.Repeat("\xFF", n), Export: true}
		add("a string of "+strconv.Itoa(n), right, c)
	}
	return out
}

func varCases() []rightCase {
	var out []rightCase
	add := func(what string, right bool, v api.SymVar) {
		v.Name = "k"
		out = append(out, rightCase{what + " " + strconv.Itoa(v.Form) + " " + strconv.Itoa(v.Len), right, func(s *api.Sym) { s.Vars[1] = v }})
	}
	for form, most := range map[int]int{api.Integer: 4096, api.Boolean: 16384, api.Char: 16384, api.Byte: 16384, api.Set: 4096} {
		for _, n := range []int{0, 1, 2, most - 1, most} {
			add("so many", true, api.SymVar{Form: form, Len: n})
		}
		for _, n := range []int{-1, most + 1, -most, 1 << 30, 1 << 32, 1<<32 + 1, 1 << 62, 1<<62 + 1, math.MinInt, math.MaxInt} {
			add("not so many", false, api.SymVar{Form: form, Len: n})
		}
		add("Open", false, api.SymVar{Form: form, Open: true})
		add("Ref", false, api.SymVar{Form: form, Ref: true})
		add("both", false, api.SymVar{Form: form, Open: true, Ref: true})
	}
	for _, form := range []int{math.MinInt, -1, api.NoType, api.Nil, api.String, api.Array, api.Open, api.Record, api.Pointer, 257, math.MaxInt} {
		add("not plain", false, api.SymVar{Form: form})
		add("not plain", false, api.SymVar{Form: form, Len: 1})
	}
	return out
}

func procCases() []rightCase {
	var out []rightCase
	param := func(what string, right bool, v api.SymVar) {
		out = append(out, rightCase{what + " " + strconv.Itoa(v.Form), right, func(s *api.Sym) { s.Procs[1].Params[3] = v }})
	}
	result := func(form int, right bool) {
		out = append(out, rightCase{"Result " + strconv.Itoa(form), right, func(s *api.Sym) { s.Procs[2].Result = form }})
	}
	for form := api.Integer; form <= api.Set; form++ {
		result(form, true)
		for bits := range 4 {
			param("plain", true, api.SymVar{Form: form, Open: bits&1 != 0, Ref: bits&2 != 0})
			param("a Name", false, api.SymVar{Name: "a", Form: form, Open: bits&1 != 0, Ref: bits&2 != 0})
			for _, n := range []int{-1, 1, 3, math.MaxInt} {
				param("a Len", false, api.SymVar{Form: form, Len: n, Open: bits&1 != 0, Ref: bits&2 != 0})
			}
		}
	}
	result(api.NoType, true)
	for _, form := range []int{math.MinInt, -1, api.Nil, api.String, api.Array, api.Open, api.Record, api.Pointer, 257, math.MaxInt} {
		result(form, false)
		param("not plain", false, api.SymVar{Form: form})
		param("not plain", false, api.SymVar{Form: form, Open: true})
	}
	param("no form", false, api.SymVar{})
	return out
}
