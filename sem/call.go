package sem

import "carrel/api"

// call calls a procedure: its Value, if it has one.
func (r *run) call(x *api.Expr) value {
	in, p := r.now.in.procedure(x.M, x.N)
	vars := make([]variable, 0, len(p.Vars))
	for i := range x.Kids {
		vars = append(vars, r.argument(in, p.Vars[i], &x.Kids[i]))
	}
	r.pay(1)
	for _, v := range p.Vars[p.Params:] {
		r.pay(words(in.size(v.Type)))
	}
	must(r.calls < api.MaxCalls, api.TrapStack)
	for _, v := range p.Vars[p.Params:] {
		vars = append(vars, in.newVariable(v.Type))
	}
	caller := r.now
	r.now = frame{in, vars}
	r.calls++
	r.block(p.Body)
	v := r.result(p)
	r.calls--
	r.now = caller
	return v
}

// argument is the variable that a parameter is: the argument's own, or a new one with its value.
func (r *run) argument(in *module, param api.Var, x *api.Expr) variable {
	v := r.reckon(x)
	form := in.mod.Types[param.Type].Form
	if param.Ref || form == api.Array || form == api.Open || form == api.Record {
		return v.(variable)
	}
	own := in.newVariable(param.Type)
	taken(v).put(own.bytes)
	return own
}

// result is what a procedure that is under way gives.
func (r *run) result(p *api.Proc) value {
	if len(p.Value) == 0 {
		return nil
	}
	v := r.value(&p.Value[0])
	if p.Result == api.Byte {
		return number(byte(v.(number)))
	}
	return v
}
