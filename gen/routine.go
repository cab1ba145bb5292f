package gen

import "carrel/api"

// Routines: what takes many instructions is made once, behind all other code, and called from statements.
const (
	copyWords = iota
	copyBytes
	makeRecord
	manyRoutines
)

// Registers of those that copy, which do so at least once.
const (
	copyTo = iota
	copyFrom
	copyCount // bytes
	copied
)

// Registers of the one that makes a record. R0 may have the address of the pointer.
const (
	newPlace = iota + 1
	newSize  // bytes, with the word ahead of it
	newDesc
	newZero
	newNext
	newEnd
)

// use calls a routine.
func (g *maker) use(routine int) {
	g.routines[routine] = append(g.routines[routine], g.callAhead())
}

func (g *maker) routine(which int) {
	switch which {
	case copyWords:
		g.copying(api.Integer, wordBytes)
	case copyBytes:
		g.copying(api.Byte, 1)
	case makeRecord:
		g.makingRecord()
	}
	g.goBack()
}

func (g *maker) copying(form int, bytes uint32) {
	again := len(g.code)
	g.load(form, copied, copyFrom, 0)
	g.store(form, copied, copyTo, 0)
	g.operateWith(api.ADD, copyFrom, copyFrom, bytes)
	g.operateWith(api.ADD, copyTo, copyTo, bytes)
	g.operateWith(api.SUB, copyCount, copyCount, bytes)
	g.jumpBack(notZero, again)
}

// makingRecord takes a record from the heap: the word ahead of it is its descriptor's address, all others are noughts, whatever the heap had.
func (g *maker) makingRecord() {
	g.constant(newZero, 0)
	g.load(api.Integer, newPlace, newZero, api.HeapNext)
	g.load(api.Integer, newEnd, newZero, api.HeapEnd)
	g.operate(api.ADD, newNext, newPlace, newSize)
	g.operate(api.SUB, newEnd, newEnd, newNext)
	g.trapIf(carry, api.TrapHeap)
	g.store(api.Integer, newNext, newZero, api.HeapNext)
	g.store(api.Integer, newDesc, newPlace, 0)
	g.operateWith(api.ADD, newPlace, newPlace, wordBytes)
	g.move(newEnd, newPlace)
	again := len(g.code)
	g.operate(api.SUB, scratch, newEnd, newNext)
	done := g.jump(zero)
	g.store(api.Integer, newZero, newEnd, 0)
	g.operateWith(api.ADD, newEnd, newEnd, wordBytes)
	g.jumpBack(always, again)
	g.land(done)
}
