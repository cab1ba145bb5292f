package sym

import "carrel/api"

// shown is what a module shows, right or not (whether forms are plain, Right asks); false, if there is no such thing, as where a type has no place.
func shown(m api.Mod) (api.Sym, bool) {
	s := api.Sym{Name: m.Name}
	for _, c := range m.Consts {
		if c.Export {
			s.Consts = append(s.Consts, c)
		}
	}
	for _, v := range m.Vars {
		if !v.Export {
			continue
		}
		x, ok := shownThing(m.Types, v.Type, api.Array)
		if !ok {
			return api.Sym{}, false
		}
		x.Name = v.Name
		s.Vars = append(s.Vars, x)
	}
	for _, p := range m.Procs {
		if !p.Export {
			continue
		}
		x, ok := shownProc(m.Types, p)
		if !ok {
			return api.Sym{}, false
		}
		s.Procs = append(s.Procs, x)
	}
	return s, true
}

// shownProc refuses too many parameters on the spot: thousands of procedures may share one list of thousands.
func shownProc(l []api.Type, p api.Proc) (api.SymProc, bool) {
	if p.Params < 0 || p.Params > len(p.Vars) || p.Params > api.MaxParams {
		return api.SymProc{}, false
	}
	x := api.SymProc{Name: p.Name}
	for _, v := range p.Vars[:p.Params] {
		param, ok := shownThing(l, v.Type, api.Open)
		if !ok {
			return api.SymProc{}, false
		}
		param.Ref = v.Ref
		x.Params = append(x.Params, param)
	}
	if p.Result == 0 { // there is none, whatever the types are
		return x, true
	}
	result, ok := typeAt(l, p.Result)
	x.Result = result.Form
	return x, ok
}

// shownThing is what is shown of a thing: its type's form, or its elements', if it is one of many (an Array, or an Open).
func shownThing(l []api.Type, place, many int) (api.SymVar, bool) {
	t, ok := typeAt(l, place)
	if !ok || t.Form != many {
		return api.SymVar{Form: t.Form}, ok
	}
	elem, ok := typeAt(l, t.Elem)
	x := api.SymVar{Form: elem.Form, Open: many == api.Open}
	if many == api.Array {
		x.Len = t.Len
	}
	return x, ok
}

func typeAt(l []api.Type, place int) (api.Type, bool) {
	if place < 0 || place >= len(l) {
		return api.Type{}, false
	}
	return l[place], true
}
