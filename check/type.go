package check

import (
	"carrel/api"
	"carrel/types"
)

// promise is a Pointer whose Record's name nothing has yet.
type promise struct {
	named   api.Node
	pointer int
}

func (c *checker) declareType(n api.Node) {
	c.inType = true
	t := c.typeAt(n.Kids[0])
	c.inType = false
	c.declare(&c.names, n.Text, n.At, typeName(t))
}

// keepPromises fills in the Records of Pointers that stood ahead of them.
func (c *checker) keepPromises() {
	for _, p := range c.later {
		c.mod.Types[p.pointer].Elem = c.recordType(p.named)
	}
}

// typeAt is a type node's place in the row.
func (c *checker) typeAt(n api.Node) int {
	switch n.Kind {
	case api.NArray:
		return c.array(n)
	case api.NOpen:
		elem := c.typeAt(n.Kids[0])
		row, t, e := types.AddOpen(c.mod.Types, elem)
		return c.added(n.At, row, t, e)
	case api.NRecord:
		return c.record(n)
	case api.NPointer:
		return c.pointer(n)
	}
	return c.namedType(n)
}

// added takes the row with one more type. What is handed to types is right, so that it says only that there is too much.
func (c *checker) added(at int, row []api.Type, t int, e api.Errno) int {
	must(e == api.OK, at, api.ErrCheckMany)
	c.mod.Types = row
	return t
}

func (c *checker) array(n api.Node) int {
	length, ok := c.expression(n.Kids[0]).(constant)
	ok = ok && length.of == api.Integer && 1 <= length.n && length.n <= api.MaxSize
	must(ok, n.At, api.ErrCheckConst)
	elem := c.typeAt(n.Kids[1])
	row, t, e := types.AddArray(c.mod.Types, int(length.n), elem)
	return c.added(n.At, row, t, e)
}

func (c *checker) record(n api.Node) int {
	base := 0
	if n.Text != "" {
		base = c.recordType(n)
	}
	var names []string
	var of []int
	taken := c.fieldNames(base)
	for _, fields := range n.Kids {
		idents, kind := named(fields)
		t := c.typeAt(kind)
		for _, x := range idents {
			_, twice := taken[x.Text]
			must(!twice, x.At, api.ErrCheckTwice)
			taken[x.Text] = struct{}{}
			names, of = append(names, x.Text), append(of, t)
		}
	}
	row, t, e := types.AddRecord(c.mod.Types, base, names, of)
	return c.added(n.At, row, t, e)
}

// fieldNames are those of the fields that a record has; of 0 none.
func (c *checker) fieldNames(record int) map[string]struct{} {
	names := map[string]struct{}{}
	for at := record; at != 0; at = c.mod.Types[at].Base {
		for _, f := range c.mod.Types[at].Fields {
			names[f.Name] = struct{}{}
		}
	}
	return names
}

// recordType is the Record that a node's Text names.
func (c *checker) recordType(n api.Node) int {
	t := c.namedType(n)
	must(c.form(t) == api.Record, n.At, api.ErrCheckType)
	return t
}

func (c *checker) pointer(n api.Node) int {
	to := n.Kids[0]
	waits := c.inType && c.find(to.Text).sort() == aNothing
	record := 0
	if !waits {
		record = c.recordType(to)
	}
	row, t, e := types.AddPointer(c.mod.Types, record)
	t = c.added(n.At, row, t, e)
	if waits {
		c.later = append(c.later, promise{to, t})
	}
	return t
}
