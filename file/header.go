package file

import (
	"carrel/api"
	"carrel/disk"
	"carrel/word"
)

// How a file lies on a disk, as the directory has it.
const (
	headerMark  = 0x31484643 // "CFH1"
	leafEntries = 31

	wordBytes = 4
	headBytes = 2 * wordBytes // the mark, and the length
)

// sectorsFor is how many sectors so many bytes take.
func sectorsFor(length int) int { return parts(length, api.SectorBytes) }

func leavesFor(files int) int { return parts(files, leafEntries) }

// parts is into how many parts of a size, of which the last one may have less, so many go.
func parts(many, size int) int { return (many + size - 1) / size }

// headerBytes are those of a header's sector, noughts behind.
func headerBytes(length int, sectors []int) []byte {
	b := make([]byte, api.SectorBytes)
	word.Put(b, 0, headerMark)
	word.Put(b, wordBytes, uint32(length))
	for i, n := range sectors {
		word.Put(b, headBytes+wordBytes*i, uint32(n))
	}
	return b
}

// bytesOf are those of an entry's file, as the disk has them now; false: its header is none, or not that of this length, or names a sector that the disk has not.
func bytesOf(d *disk.Disk, entry api.Entry) (string, bool) {
	header, e := d.Read(entry.Header)
	if e != api.OK || wordIn(header, 0) != headerMark || wordIn(header, wordBytes) != uint32(entry.Len) {
		return "", false
	}
	var all []byte
	for i := range sectorsFor(entry.Len) {
		b, e := d.Read(int(wordIn(header, headBytes+wordBytes*i)))
		if e != api.OK {
			return "", false
		}
		all = append(all, b...)
	}
	return string(all[:entry.Len]), true
}

func wordIn(b []byte, at int) uint32 {
	w, _ := word.Get(b, at)
	return w
}
