package link

import (
	"carrel/api"
	"carrel/word"
)

const bootStart = 32 // where an image's start stands, behind the words that are told of it

// Words of starts. Branches always, one of them with link: their N is still to be filled in.
const (
	callWord = 0xF7000000
	jumpWord = 0xE7000000
	haltWord = 0x400F0000 // TRAP 0
	noughtR0 = 0x40000000 // MOV R0, 0
	upperR1  = 0x61000000 // MOV R1: the upper half
	lowerR1  = 0x41160000 // IOR R1, R1: the lower half
	noCalls  = 0xA000001C // the word at 28, how many calls are under way, gets R0
)

// starter adds one word of a start behind the other.
type starter struct {
	plan  *plan
	words []uint32
}

func (s *starter) add(words ...uint32) { s.words = append(s.words, words...) }

// here is the address of the word that comes next.
func (s *starter) here() int { return s.plan.from + wordBytes*len(s.words) }

// branch adds one to an address.
func (s *starter) branch(w uint32, there int) {
	s.add(withN(w, wordsToGo(s.here(), there)))
}

// modules adds a call of what each module does first.
func (s *starter) modules() {
	for _, object := range s.plan.order {
		s.branch(callWord, s.plan.spots[object].code+wordBytes*s.plan.objects[object].Init)
	}
}

// stackTop makes R14 the stack's top.
func (s *starter) stackTop() { s.add(0x6E00000F, 0x4EE6F000) }

// bootCode is an image's start, and behind it the code that traps go on at, if there is a procedure for them.
func bootCode(p *plan) []uint32 {
	s := &starter{plan: p}
	s.stackTop()
	s.modules()
	s.add(haltWord)
	if trap, there := p.trap(); there {
		p.vector = s.here()
		s.stackTop()
		s.add(noughtR0, noCalls)
		s.branch(jumpWord, p.address(trap))
	}
	return s.words
}

// trap is the procedure to which traps go on, if the last module shows one.
func (p *plan) trap() (thing, bool) {
	last := p.order[len(p.order)-1]
	o := p.objects[last]
	for place, name := range o.Names {
		if name == "Trap" && o.Exports[place] {
			return thing{last, api.FixProc, place}, true
		}
	}
	return thing{}, false
}

// bootWords are the words ahead of an image's start.
func (p *plan) bootWords() []uint32 {
	words := make([]uint32, bootStart/wordBytes)
	words[api.HeapNext/wordBytes] = uint32(p.heap)
	words[api.HeapEnd/wordBytes] = uint32(p.heapEnd())
	words[api.TrapVector/wordBytes] = uint32(p.vector)
	return words
}

// progCode is a program's start: what it changes of the caller's it keeps on the stack, and puts back.
func progCode(p *plan) []uint32 {
	s := &starter{plan: p}
	s.add(0x4EE90010, 0xAFE00000, noughtR0) // 16 bytes less; R15 is kept
	s.add(0x81000008, 0xA1E00004)           // HeapNext
	s.add(0x8100000C, 0xA1E00008)           // HeapEnd
	s.add(0x8100001C, 0xA1E0000C)           // CallDepth
	s.add(noCalls)
	s.addressR1(p.heap)
	s.add(0xA1000008)
	s.addressR1(p.heapEnd())
	s.add(0xA100000C)
	s.modules()
	s.add(noughtR0)
	s.add(0x81E00004, 0xA1000008)
	s.add(0x81E00008, 0xA100000C)
	s.add(0x81E0000C, 0xA100001C)
	s.add(0x8FE00000, 0x4EE80010, 0xC700000F)
	return s.words
}

// addressR1 makes R1 an address.
func (s *starter) addressR1(at int) {
	s.add(withN(upperR1, at>>halfBits), withN(lowerR1, at&halfOnes))
}

const (
	fileMark = 0x31505243 // "CRP1"
	fileHead = 3 * wordBytes
)

// progFile is the file of a program with these words.
func progFile(words []uint32) []byte {
	var sum uint32
	for _, w := range words {
		sum += w
	}
	file := make([]byte, fileHead+wordBytes*len(words))
	for i, w := range append([]uint32{fileMark, uint32(len(words)), sum}, words...) {
		word.Put(file, wordBytes*i, w)
	}
	return file
}
