package link

import (
	"carrel/api"
	"carrel/word"
)

const (
	wordBytes = 4
	descWords = 5 // a size, and the addresses of as many descriptors as there may be tags
)

// spots are the addresses of one object's things.
type spots struct {
	code                 int
	vars, strings, descs []int
}

// plan is a whole with the address of everything.
type plan struct {
	*whole
	from   int      // where the start stands
	start  []uint32 // what is done first
	vector int      // where traps go on; 0: nowhere
	spots  []spots  // of the objects, as they stand in the list
	heap   int      // where that begins: behind all else
}

// laidOut plans where objects stand behind a start, which stands at an address.
func laidOut(l []api.Object, from int, start func(*plan) []uint32) (*plan, error) {
	w, err := gather(l)
	if err != nil {
		return nil, err
	}
	if err := w.fixesFit(); err != nil {
		return nil, err
	}
	p := &plan{whole: w, from: from}
	p.place(0)
	p.place(len(start(p))) // how many words a start has hangs on no address
	p.start = start(p)
	return p, nil
}

// place finds all addresses behind a start of so many words.
func (p *plan) place(startWords int) {
	at := p.from + wordBytes*startWords
	room := func(bytes int) int {
		here := at
		at += wordBytes * wordsOf(bytes)
		return here
	}
	p.spots = make([]spots, len(p.objects))
	for _, object := range p.order {
		o, s := p.objects[object], &p.spots[object]
		s.code = room(wordBytes * len(o.Code))
		for _, bytes := range o.Vars {
			s.vars = append(s.vars, room(bytes))
		}
		for _, text := range o.Strings {
			s.strings = append(s.strings, room(len(text)+1))
		}
		for range o.Descs {
			s.descs = append(s.descs, room(wordBytes*descWords))
		}
	}
	p.heap = at
}

// wordsOf is how many words so many bytes take.
func wordsOf(bytes int) int { return (bytes + wordBytes - 1) / wordBytes }

func (p *plan) heapEnd() int { return p.heap + api.MaxHeap }

// address is where a thing stands.
func (p *plan) address(t thing) int {
	s := p.spots[t.object]
	switch t.kind {
	case api.FixVar:
		return s.vars[t.place]
	case api.FixStr:
		return s.strings[t.place]
	case api.FixDesc:
		return s.descs[t.place]
	}
	return s.code + wordBytes*p.objects[t.object].Procs[t.place]
}

// words are all words of a memory from an address on up to where the heap begins.
func (p *plan) words(from int) []uint32 {
	all := make([]uint32, (p.heap-from)/wordBytes)
	put := func(at int, words []uint32) []uint32 {
		room := all[(at-from)/wordBytes:][:len(words)]
		copy(room, words)
		return room
	}
	put(p.from, p.start)
	for object, o := range p.objects {
		s := p.spots[object]
		p.fix(object, put(s.code, o.Code))
		for place, text := range o.Strings {
			put(s.strings[place], textWords(text))
		}
		for place, d := range o.Descs {
			put(s.descs[place], p.descWords(object, d))
		}
	}
	return all
}

// fix fills in all fixes of an object's code.
func (p *plan) fix(object int, code []uint32) {
	for _, f := range p.objects[object].Fixes {
		t, _ := p.find(object, f)
		fill(code[f.At:], f.Kind, p.spots[object].code+wordBytes*f.At, p.address(t))
	}
}

// textWords are a text's bytes, with one 0 behind or more.
func textWords(text string) []uint32 {
	words := make([]uint32, wordsOf(len(text)+1))
	bytes := make([]byte, wordBytes*len(words))
	copy(bytes, text)
	for i := range words {
		words[i], _ = word.Get(bytes, wordBytes*i)
	}
	return words
}

// descWords are a descriptor of an object.
func (p *plan) descWords(object int, d api.Desc) []uint32 {
	words := make([]uint32, descWords)
	words[0] = uint32(d.Size)
	for i, tag := range d.Tags {
		words[1+i] = uint32(p.spots[object].descs[descPlace(p.objects[object].Descs, tag)])
	}
	return words
}
