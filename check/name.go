package check

import "carrel/api"

// What names may mean.
const (
	aNothing = iota
	aConstant
	aVariable
	aType
	aProcedure
	aModule
	aStandard
)

// meaning is what a name means.
type meaning interface {
	sort() int
}

// nothing is what a name means that nothing has.
type nothing struct{}

// typeName is a place of the row of types.
type typeName int

// procedure is one of this module's, or of one that is imported.
type procedure struct {
	module, number int // as in an ECall
	params         []api.Var
	result         int
}

// module is one that is imported.
type module struct{ names scope }

// standard is the number of a standard function or procedure.
type standard int

func (nothing) sort() int   { return aNothing }
func (constant) sort() int  { return aConstant }
func (text) sort() int      { return aConstant }
func (variable) sort() int  { return aVariable }
func (typeName) sort() int  { return aType }
func (procedure) sort() int { return aProcedure }
func (module) sort() int    { return aModule }
func (standard) sort() int  { return aStandard }

// scope is names, and what each of them means.
type scope struct {
	places map[string]int // in means
	means  []meaning
}

func newScope() scope { return scope{places: map[string]int{}} }

func (s *scope) has(name string) bool {
	_, ok := s.places[name]
	return ok
}

func (s *scope) find(name string) meaning {
	if at, ok := s.places[name]; ok {
		return s.means[at]
	}
	return nothing{}
}

func (s *scope) add(name string, m meaning) {
	s.places[name] = len(s.means)
	s.means = append(s.means, m)
}

// find is what a name means here: a procedure's own names hide the module's.
func (c *checker) find(name string) meaning {
	for _, s := range []*scope{&c.local, &c.names} {
		if s.has(name) {
			return s.find(name)
		}
	}
	return c.standard.find(name)
}

// declare gives a name its meaning in the module, or in a procedure.
func (c *checker) declare(s *scope, name string, at int, m meaning) {
	must(!c.standard.has(name) && !s.has(name), at, api.ErrCheckTwice)
	s.add(name, m)
}

// namedType is the type that a node's Text names.
func (c *checker) namedType(n api.Node) int {
	t, ok := c.find(n.Text).(typeName)
	must(ok, n.At, api.ErrCheckName)
	return int(t)
}

// isNamed: is a designator a Name, or a Field M.x of a module M? Then what it means hangs on names alone.
func (c *checker) isNamed(n api.Node) bool {
	if n.Kind == api.NName {
		return true
	}
	_, ok := c.moduleOf(n)
	return ok
}

// moduleOf is the M of M.x.
func (c *checker) moduleOf(n api.Node) (module, bool) {
	if n.Kind != api.NField || n.Kids[0].Kind != api.NName {
		return module{}, false
	}
	m, ok := c.find(n.Kids[0].Text).(module)
	return m, ok
}

// meaningOf is what a designator means; of one that is not named: nothing.
func (c *checker) meaningOf(n api.Node) meaning {
	if n.Kind == api.NName {
		return c.find(n.Text)
	}
	if m, ok := c.moduleOf(n); ok {
		return m.names.find(n.Text)
	}
	return nothing{}
}
