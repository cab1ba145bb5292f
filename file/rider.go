package file

import (
	"carrel/api"
	"carrel/dir"
)

// source is what a rider reads from.
type source interface {
	// byteAt is the byte at a place; false: none stands there.
	byteAt(at int) (byte, bool)
}

// held are the bytes that a file had when a rider was set: what is done to the file behind that is not seen.
type held string

func (h held) byteAt(at int) (byte, bool) {
	if at < 0 || at >= len(h) {
		return 0, false
	}
	return h[at], true
}

// Rider goes through a file.
type Rider struct {
	source
	at int
}

// Open sets one at a place.
func Open(x *dir.Dir, name string, at int) (*Rider, api.Errno) {
	data, e := Read(x, name)
	if e != api.OK {
		return nil, e
	}
	if at < 0 || at > len(data) {
		return nil, api.ErrFileAt
	}
	return &Rider{source: held(data), at: at}, api.OK
}

// Next is the next byte; At where it stands.
func (r *Rider) Next() (byte, bool) {
	if r == nil || r.source == nil { // a rider that Open has not set has no bytes
		return 0, false
	}
	c, ok := r.byteAt(r.at)
	if ok {
		r.at++
	}
	return c, ok
}

func (r *Rider) At() int {
	if r == nil {
		return 0
	}
	return r.at
}
