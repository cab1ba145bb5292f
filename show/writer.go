package show

import (
	"strings"

	"carrel/api"
)

// writer writes the one form of a sound tree, part by part. At a part that may not stand where it does it is stuck.
type writer struct {
	text  strings.Builder
	tabs  int // with which a line begins
	open  int // how many things are open
	stuck bool
}

// thing is what stands at a node.
type thing interface {
	write(w *writer)
}

// nothing stands at a node of a kind that is not asked for there.
type nothing struct{}

func (nothing) rank() int { return factor }

func (nothing) write(w *writer) { w.stuck = true }

// word stands at a node that is one token.
type word string

func (word) rank() int { return factor }

func (x word) write(w *writer) { w.put(string(x)) }

// put adds texts, unless the writer is stuck: what it would have written then is not asked for.
func (w *writer) put(texts ...string) {
	if w.stuck {
		return
	}
	for _, one := range texts {
		w.text.WriteString(one)
	}
}

// line begins a new line. Its end comes with the next one, as a statement does not know whether a ; stands behind it.
func (w *writer) line(write func()) {
	if w.text.Len() > 0 {
		w.put("\n")
	}
	w.put(strings.Repeat("\t", w.tabs))
	write()
}

// words writes a line of these alone.
func (w *writer) words(texts ...string) {
	w.line(func() { w.put(texts...) })
}

// deeper has lines begin with one tab more.
func (w *writer) deeper(write func()) {
	w.tabs++
	write()
	w.tabs--
}

// opened writes what stands from where one more thing is open up to its end.
func (w *writer) opened(write func()) {
	if w.open == api.MaxOpen {
		w.stuck = true
		return
	}
	w.open++
	write()
	w.open--
}

// within writes what stands between two signs, the first of which opens something up to the second one.
func (w *writer) within(begins string, write func(), ends string) {
	w.opened(func() {
		w.put(begins)
		write()
		w.put(ends)
	})
}

// row writes one part for each node, with a text between each two.
func (w *writer) row(nodes []api.Node, between string, part func(api.Node)) {
	for k, one := range nodes {
		if k > 0 {
			w.put(between)
		}
		part(one)
	}
}

// is asks for a kind: is it that of the node?
func (w *writer) is(n api.Node, kind int) bool {
	if n.Kind != kind {
		w.stuck = true
		return false
	}
	return true
}
