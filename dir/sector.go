package dir

import (
	"iter"
	"strings"

	"carrel/api"
	"carrel/disk"
	"carrel/word"
)

// How a directory lies on a disk.
const (
	rootSector = 0

	rootMark   = 0x31524443 // "CDR1"
	leafMark   = 0x314C4443 // "CDL1"
	headerMark = 0x31484643 // "CFH1"

	maxLeaves   = 7
	leafEntries = 31

	wordBytes  = 4
	headBytes  = 2 * wordBytes // the mark, and a number
	nameBytes  = api.MaxFileName + 1
	entryBytes = nameBytes + 2*wordBytes
)

// readRoot is which leaves there are.
func readRoot(d *disk.Disk) ([]int, bool) {
	b, many, ok := readMarked(d, rootSector, rootMark, maxLeaves)
	return sectorsIn(b, many), ok
}

// readHeader is the file of an entry, whose sectors its header names.
func readHeader(d *disk.Disk, e api.Entry) (file, bool) {
	b, length, ok := readMarked(d, e.Header, headerMark, api.MaxFile)
	if !ok || length != e.Len {
		return file{}, false
	}
	data := sectorsIn(b, (length+api.SectorBytes-1)/api.SectorBytes)
	return file{Entry: e, sectors: append([]int{e.Header}, data...)}, true
}

// onLeaves goes through the entries of all leaves, one behind the other, up to the first thing there that may not be: beside it stands false.
func onLeaves(d *disk.Disk, leaves []int) iter.Seq2[api.Entry, bool] {
	return func(yield func(api.Entry, bool) bool) {
		for i, leaf := range leaves {
			b, many, ok := readMarked(d, leaf, leafMark, leafEntries)
			full := many == leafEntries
			last := i == len(leaves)-1
			if !ok || many == 0 || !full && !last {
				yield(api.Entry{}, false)
				return
			}
			for k := range many {
				e, ok := entryIn(b, k)
				if !yield(e, ok) || !ok {
					return
				}
			}
		}
	}
}

// readMarked is a sector's bytes, which begin with a mark, and the number behind it, at most so great.
func readMarked(d *disk.Disk, n int, mark, most uint32) ([]byte, int, bool) {
	b, e := d.Read(n)
	if e != api.OK || wordIn(b, 0) != mark || wordIn(b, wordBytes) > most {
		return nil, 0, false
	}
	return b, int(wordIn(b, wordBytes)), true
}

func wordIn(b []byte, at int) uint32 {
	w, _ := word.Get(b, at)
	return w
}

// sectorsIn are so many sectors that the bytes of a root or a header name.
func sectorsIn(b []byte, many int) []int {
	l := make([]int, many)
	for i := range l {
		l[i] = int(wordIn(b, headBytes+wordBytes*i))
	}
	return l
}

// entryIn is one entry of a leaf's bytes.
func entryIn(b []byte, which int) (api.Entry, bool) {
	b = b[headBytes+entryBytes*which:][:entryBytes]
	name, noughts, _ := strings.Cut(string(b[:nameBytes]), "\x00")
	if !IsName(name) || strings.Trim(noughts, "\x00") != "" {
		return api.Entry{}, false
	}
	return api.Entry{
		Name:   name,
		Header: int(wordIn(b, nameBytes)),
		Len:    int(wordIn(b, nameBytes+wordBytes)),
	}, true
}

// rootBytes are a root's, which names these leaves.
func rootBytes(leaves []int) []byte {
	b := markedBytes(rootMark, len(leaves))
	for i, leaf := range leaves {
		word.Put(b, headBytes+wordBytes*i, uint32(leaf))
	}
	return b
}

// leafBytes are a leaf's, which has the entries of these files.
func leafBytes(files []file) []byte {
	b := markedBytes(leafMark, len(files))
	for i, e := range entries(files) {
		at := headBytes + entryBytes*i
		copy(b[at:], e.Name)
		word.Put(b, at+nameBytes, uint32(e.Header))
		word.Put(b, at+nameBytes+wordBytes, uint32(e.Len))
	}
	return b
}

// markedBytes are those of a sector that begins so, with noughts behind.
func markedBytes(mark uint32, n int) []byte {
	b := make([]byte, api.SectorBytes)
	word.Put(b, 0, mark)
	word.Put(b, wordBytes, uint32(n))
	return b
}
