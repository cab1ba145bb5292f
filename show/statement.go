package show

import "carrel/api"

// block writes a Block's statements, parted by ; at the ends of lines.
func (w *writer) block(n api.Node) {
	if !w.is(n, api.NBlock) {
		return
	}
	w.deeper(func() {
		w.row(n.Kids, ";", func(one api.Node) { statementAt(one).write(w) })
	})
}

func statementAt(n api.Node) thing {
	switch n.Kind {
	case api.NAssign:
		return assign(n)
	case api.NDo:
		return do(n)
	case api.NIf:
		return ifs(n)
	case api.NWhile:
		return while(n)
	case api.NRepeat:
		return repeat(n)
	case api.NFor:
		return count(n)
	}
	return nothing{}
}

type assign api.Node

func (x assign) write(w *writer) {
	w.line(func() {
		w.designator(x.Kids[0])
		w.put(" := ")
		w.anyExpression(x.Kids[1])
	})
}

type do api.Node

func (x do) write(w *writer) {
	w.line(func() { w.designator(x.Kids[0]) })
}

type ifs api.Node

func (x ifs) write(w *writer) {
	w.opened(func() {
		otherwise := w.branches("IF ", x.Kids, " THEN")
		for _, block := range otherwise {
			w.words("ELSE")
			w.block(block)
		}
		w.words("END")
	})
}

type while api.Node

func (x while) write(w *writer) {
	w.opened(func() {
		otherwise := w.branches("WHILE ", x.Kids, " DO")
		if len(otherwise) > 0 {
			w.stuck = true
		}
		w.words("END")
	})
}

// branches writes conditions, each with its Block, and answers the Kid that is left, if they are odd.
func (w *writer) branches(begins string, kids []api.Node, behind string) []api.Node {
	for ; len(kids) > 1; kids = kids[2:] {
		w.line(func() {
			w.put(begins)
			w.anyExpression(kids[0])
			w.put(behind)
		})
		w.block(kids[1])
		begins = "ELSIF "
	}
	return kids
}

type repeat api.Node

func (x repeat) write(w *writer) {
	w.opened(func() {
		w.words("REPEAT")
		w.block(x.Kids[0])
		w.line(func() {
			w.put("UNTIL ")
			w.anyExpression(x.Kids[1])
		})
	})
}

type count api.Node

func (x count) write(w *writer) {
	last := len(x.Kids) - 1
	w.opened(func() {
		w.line(func() {
			w.put("FOR ", x.Text, " := ")
			w.anyExpression(x.Kids[0])
			w.put(" TO ")
			w.anyExpression(x.Kids[1])
			for _, step := range x.Kids[2:last] {
				w.put(" BY ")
				w.anyExpression(step)
			}
			w.put(" DO")
		})
		w.block(x.Kids[last])
		w.words("END")
	})
}
