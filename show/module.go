package show

import "carrel/api"

// kids are those of a node that are not yet taken.
type kids []api.Node

// take takes as many of a kind as stand first, at most so many.
func (k *kids) take(kind, most int) []api.Node {
	taken := 0
	for taken < min(len(*k), most) && (*k)[taken].Kind == kind {
		taken++
	}
	first := (*k)[:taken]
	*k = (*k)[taken:]
	return first
}

// all asks that none is left.
func (w *writer) all(left kids) {
	if len(left) > 0 {
		w.stuck = true
	}
}

func (w *writer) module(n api.Node) {
	if !w.is(n, api.NModule) {
		return
	}
	left := kids(n.Kids)
	w.words("MODULE ", n.Text, ";")
	w.imports(left.take(api.NImport, many))
	w.section("CONST", left.take(api.NConst, many), w.constant)
	w.section("TYPE", left.take(api.NType, many), w.typeNamed)
	w.section("VAR", left.take(api.NVar, many), w.variables)
	for _, one := range left.take(api.NProc, many) {
		w.procedure(one)
	}
	w.body(left.take(api.NBlock, 1))
	w.all(left)
	w.words("END ", n.Text, ".")
	w.put("\n")
}

func (w *writer) imports(nodes []api.Node) {
	if len(nodes) == 0 {
		return
	}
	w.line(func() {
		w.put("IMPORT ")
		w.row(nodes, ", ", func(one api.Node) { w.put(one.Text) })
		w.put(";")
	})
}

// section writes a keyword, and below it a line for each declaration, if there are some.
func (w *writer) section(key string, declarations []api.Node, part func(api.Node)) {
	if len(declarations) == 0 {
		return
	}
	w.words(key)
	w.deeper(func() {
		for _, one := range declarations {
			w.line(func() {
				part(one)
				w.put(";")
			})
		}
	})
}

// body writes the Block behind BEGIN, if there is one.
func (w *writer) body(blocks []api.Node) {
	for _, one := range blocks {
		w.words("BEGIN")
		w.block(one)
	}
}

func (w *writer) procedure(n api.Node) {
	left := kids(n.Kids)
	params := left.take(api.NParam, many)
	results := left.take(api.NResult, 1)
	w.line(func() {
		w.put("PROCEDURE ")
		w.marked(n)
		w.heading(params, results)
		w.put(";")
	})
	w.deeper(func() {
		w.section("CONST", left.take(api.NConst, many), w.constant)
		w.section("VAR", left.take(api.NVar, many), w.variables)
	})
	w.body(left.take(api.NBlock, 1))
	for _, one := range left.take(api.NReturn, 1) {
		w.deeper(func() { w.result(one) })
	}
	w.all(left)
	w.words("END ", n.Text, ";")
}

func (w *writer) result(n api.Node) {
	w.line(func() {
		w.put("RETURN ")
		w.anyExpression(n.Kids[0])
	})
}

// heading writes what stands behind a procedure's name.
func (w *writer) heading(params, results []api.Node) {
	if len(params) == 0 && len(results) == 0 {
		return
	}
	w.put("(")
	w.row(params, "; ", w.parameters)
	w.put(")")
	for _, one := range results {
		w.put(": ", one.Text)
	}
}

// marked writes a node's name, and the * that its Flag is.
func (w *writer) marked(n api.Node) {
	w.put(n.Text)
	if n.Flag {
		w.put("*")
	}
}

func (w *writer) constant(n api.Node) {
	w.marked(n)
	w.put(" = ")
	w.anyExpression(n.Kids[0])
}

func (w *writer) typeNamed(n api.Node) {
	w.put(n.Text, " = ")
	w.typeNode(n.Kids[0])
}

func (w *writer) variables(n api.Node) { w.typed(n, w.ident, w.typeNode) }

// fields writes a record's.
func (w *writer) fields(n api.Node) {
	if w.is(n, api.NFields) {
		w.typed(n, w.bareIdent, w.typeNode)
	}
}

func (w *writer) parameters(n api.Node) {
	if n.Flag {
		w.put("VAR ")
	}
	w.typed(n, w.bareIdent, w.parameterType)
}

// typed writes a node's Idents, and the type that is its last Kid.
func (w *writer) typed(n api.Node, ident, typeNode func(api.Node)) {
	last := len(n.Kids) - 1
	w.row(n.Kids[:last], ", ", ident)
	w.put(": ")
	typeNode(n.Kids[last])
}

func (w *writer) ident(n api.Node) {
	if w.is(n, api.NIdent) {
		w.marked(n)
	}
}

// bareIdent writes one that may not have a *.
func (w *writer) bareIdent(n api.Node) {
	if n.Flag {
		w.stuck = true
	}
	w.ident(n)
}

func (w *writer) parameterType(n api.Node) {
	if n.Kind == api.NOpen {
		w.put("ARRAY OF ")
		n = n.Kids[0]
	}
	w.typeName(n)
}

func (w *writer) typeName(n api.Node) {
	if w.is(n, api.NNamed) {
		w.put(n.Text)
	}
}

func (w *writer) typeNode(n api.Node) { typeAt(n).write(w) }

func typeAt(n api.Node) thing {
	switch n.Kind {
	case api.NNamed:
		return word(n.Text)
	case api.NArray:
		return array(n)
	case api.NRecord:
		return record(n)
	case api.NPointer:
		return pointer(n)
	}
	return nothing{}
}

type array api.Node

func (x array) write(w *writer) {
	w.opened(func() {
		w.put("ARRAY ")
		w.anyExpression(x.Kids[0])
		w.put(" OF ")
		w.typeNode(x.Kids[1])
	})
}

type record api.Node

func (x record) write(w *writer) {
	w.within("RECORD ", func() {
		if x.Text != "" {
			w.put("(", x.Text, ") ")
		}
		w.row(x.Kids, "; ", w.fields)
		if len(x.Kids) > 0 {
			w.put(" ")
		}
	}, "END")
}

type pointer api.Node

func (x pointer) write(w *writer) {
	w.put("POINTER TO ")
	w.typeName(x.Kids[0])
}
