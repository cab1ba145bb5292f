package tree

import "carrel/api"

// block reads statements, parted by ; of which some may have nothing beside them. What ends them is left to who asks.
func (r *reader) block() api.Node {
	n := node(api.NBlock, r.here().At)
	for more := true; more; more = r.found(";") {
		if one, ok := r.statement(); ok {
			n.Kids = append(n.Kids, one)
		}
	}
	return n
}

// statement reads one; false: none begins here.
func (r *reader) statement() (api.Node, bool) {
	if r.here().Kind == api.TokName {
		return r.assignOrDo(), true
	}
	switch r.word() {
	case "IF":
		return r.branches(api.NIf, "THEN"), true
	case "WHILE":
		return r.branches(api.NWhile, "DO"), true
	case "REPEAT":
		return r.repeat(), true
	case "FOR":
		return r.count(), true
	}
	return api.Node{}, false
}

func (r *reader) assignOrDo() api.Node {
	at := r.here().At
	designator := r.designator()
	if r.found(":=") {
		return node(api.NAssign, at, designator, r.expression())
	}
	return node(api.NDo, at, designator)
}

// branches reads an If or a While: conditions, each with a word and a Block behind it.
func (r *reader) branches(kind int, behind string) api.Node {
	n := node(kind, r.begin().At)
	for more := true; more; more = r.found("ELSIF") {
		n.Kids = append(n.Kids, r.expression())
		r.must(behind)
		n.Kids = append(n.Kids, r.block())
	}
	if kind == api.NIf && r.found("ELSE") {
		n.Kids = append(n.Kids, r.block())
	}
	r.must("END")
	r.end()
	return n
}

func (r *reader) repeat() api.Node {
	at := r.begin().At
	block := r.block()
	r.must("UNTIL")
	condition := r.expression()
	r.end()
	return node(api.NRepeat, at, block, condition)
}

func (r *reader) count() api.Node {
	n := node(api.NFor, r.begin().At)
	n.Text = r.name().Text
	r.must(":=")
	n.Kids = append(n.Kids, r.expression())
	r.must("TO")
	n.Kids = append(n.Kids, r.expression())
	if r.found("BY") {
		n.Kids = append(n.Kids, r.expression())
	}
	r.must("DO")
	n.Kids = append(n.Kids, r.block())
	r.must("END")
	r.end()
	return n
}
