package sem

import "carrel/api"

// value is what an expression was found to be.
type value interface {
	put(to []byte) // lays it into a variable
}

// number is one of INTEGER or BYTE.
type number int32

type character byte

type truth bool

type set uint32

// pointer is which of the heap's records, from 1 on, or NIL.
type pointer uint32

// variable is a place that has a value: its bytes, which other variables may have too.
type variable struct {
	form   int
	length int // of an array: how many elements
	bytes  []byte
}

const wordBytes = 4

func (n number) put(to []byte) {
	if len(to) < wordBytes { // a BYTE takes the lowest one
		to[0] = byte(n)
		return
	}
	putWord(to, uint32(n))
}

func (c character) put(to []byte) { to[0] = byte(c) }

func (t truth) put(to []byte) { to[0] = byte(t.number()) }

func (s set) put(to []byte) { putWord(to, uint32(s)) }

func (p pointer) put(to []byte) { putWord(to, uint32(p)) }

func (v variable) put(to []byte) { copy(to, v.bytes) }

func (t truth) number() number {
	if t {
		return 1
	}
	return 0
}

// has is what a variable has; an array and a record are taken as they stand.
func (v variable) has() value {
	switch v.form {
	case api.Integer:
		return number(wordAt(v.bytes))
	case api.Byte:
		return number(v.bytes[0])
	case api.Char:
		return character(v.bytes[0])
	case api.Boolean:
		return truth(v.bytes[0] != 0)
	case api.Set:
		return set(wordAt(v.bytes))
	case api.Pointer:
		return pointer(wordAt(v.bytes))
	}
	return v
}

// taken is an expression as a value.
func taken(v value) value {
	if place, ok := v.(variable); ok {
		return place.has()
	}
	return v
}

// literal is the value of an ELit.
func literal(form int, n int64) value {
	switch form {
	case api.Boolean:
		return truth(n != 0)
	case api.Char:
		return character(n)
	case api.Set:
		return set(n)
	case api.Nil:
		return pointer(n)
	}
	return number(n)
}

func putWord(to []byte, w uint32) {
	for i := range wordBytes {
		to[i] = byte(w >> (8 * i))
	}
}

func wordAt(b []byte) uint32 {
	var w uint32
	for i := range wordBytes {
		w |= uint32(b[i]) << (8 * i)
	}
	return w
}

// words is how many words so many bytes take.
func words(bytes int) int64 { return int64((bytes + wordBytes - 1) / wordBytes) }
