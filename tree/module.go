package tree

import "carrel/api"

func (r *reader) module() api.Node {
	at := r.must("MODULE").At
	n := r.named(api.NModule)
	n.At = at
	r.must(";")
	if r.found("IMPORT") {
		n.Kids = r.row(",", func() api.Node { return r.named(api.NImport) })
		r.must(";")
	}
	n.Kids = append(n.Kids, r.section("CONST", r.constant)...)
	n.Kids = append(n.Kids, r.section("TYPE", r.typeNamed)...)
	n.Kids = append(n.Kids, r.section("VAR", r.variables)...)
	for r.word() == "PROCEDURE" {
		n.Kids = append(n.Kids, r.procedure())
		r.must(";")
	}
	if r.found("BEGIN") {
		n.Kids = append(n.Kids, r.block())
	}
	r.ending(n.Text)
	r.must(".")
	return n
}

// ending reads the END and the NAME of what has that name.
func (r *reader) ending(name string) {
	r.must("END")
	if r.here().Kind == api.TokName && r.here().Text != name {
		panic(r.fault(api.ErrTreeName))
	}
	r.name()
}

// section reads a keyword's declarations, if the keyword stands here. Each of them begins with a NAME, which no section's keyword is.
func (r *reader) section(key string, declaration func() api.Node) []api.Node {
	if !r.found(key) {
		return nil
	}
	var all []api.Node
	for r.here().Kind == api.TokName {
		all = append(all, declaration())
		r.must(";")
	}
	return all
}

// marked reads a NAME that may have a * behind it.
func (r *reader) marked(kind int) api.Node {
	n := r.named(kind)
	n.Flag = r.found("*")
	return n
}

func (r *reader) constant() api.Node {
	n := r.marked(api.NConst)
	r.must("=")
	n.Kids = []api.Node{r.expression()}
	return n
}

func (r *reader) typeNamed() api.Node {
	n := r.named(api.NType)
	r.must("=")
	n.Kids = []api.Node{r.typeNode()}
	return n
}

func (r *reader) variables() api.Node { return r.typed(api.NVar, r.markedIdent, r.typeNode) }

func (r *reader) fields() api.Node { return r.typed(api.NFields, r.bareIdent, r.typeNode) }

func (r *reader) parameters() api.Node {
	at := r.here().At
	isVar := r.found("VAR")
	n := r.typed(api.NParam, r.bareIdent, r.parameterType)
	n.Flag, n.At = isVar, at
	return n
}

// typed reads Idents and the type that they have.
func (r *reader) typed(kind int, ident, typeNode func() api.Node) api.Node {
	at := r.here().At
	kids := r.row(",", ident)
	r.must(":")
	return node(kind, at, append(kids, typeNode())...)
}

func (r *reader) markedIdent() api.Node { return r.marked(api.NIdent) }

func (r *reader) bareIdent() api.Node { return r.named(api.NIdent) }

func (r *reader) procedure() api.Node {
	at := r.must("PROCEDURE").At
	n := r.marked(api.NProc)
	n.At = at
	n.Kids = r.heading()
	r.must(";")
	n.Kids = append(n.Kids, r.section("CONST", r.constant)...)
	n.Kids = append(n.Kids, r.section("VAR", r.variables)...)
	if r.found("BEGIN") {
		n.Kids = append(n.Kids, r.block())
	}
	if r.word() == "RETURN" {
		where := r.pass().At
		n.Kids = append(n.Kids, node(api.NReturn, where, r.expression()))
	}
	r.ending(n.Text)
	return n
}

// heading reads a procedure's Params and its Result, if it has brackets.
func (r *reader) heading() []api.Node {
	if !r.found("(") {
		return nil
	}
	var kids []api.Node
	if r.word() != ")" {
		kids = r.row(";", r.parameters)
	}
	r.must(")")
	if r.found(":") {
		kids = append(kids, r.named(api.NResult))
	}
	return kids
}

func (r *reader) typeName() api.Node { return r.named(api.NNamed) }

func (r *reader) parameterType() api.Node {
	if r.word() != "ARRAY" {
		return r.typeName()
	}
	at := r.pass().At
	r.must("OF")
	return node(api.NOpen, at, r.typeName())
}

func (r *reader) typeNode() api.Node {
	switch r.word() {
	case "ARRAY":
		return r.array(r.here().At)
	case "RECORD":
		return r.record()
	case "POINTER":
		at := r.pass().At
		r.must("TO")
		return node(api.NPointer, at, r.typeName())
	}
	return r.typeName()
}

// array reads what begins with ARRAY, or with a comma of its lengths, which is an Array at the same place within the one ahead.
func (r *reader) array(at int) api.Node {
	r.begin()
	length, element := r.expression(), api.Node{}
	if r.word() == "," {
		element = r.array(at)
	} else {
		r.must("OF")
		element = r.typeNode()
	}
	r.end()
	return node(api.NArray, at, length, element)
}

func (r *reader) record() api.Node {
	n := node(api.NRecord, r.begin().At)
	if r.found("(") {
		n.Text = r.name().Text
		r.must(")")
	}
	if r.word() != "END" {
		n.Kids = r.row(";", r.fields)
	}
	r.must("END")
	r.end()
	return n
}
