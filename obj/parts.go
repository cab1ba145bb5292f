package obj

import "math"

const (
	maxUint  = math.MaxUint32
	maxOctet = math.MaxUint8
)

// A number's groups of bits.
const (
	groupBits = 7
	groupMask = 1<<groupBits - 1
	moreBit   = 1 << groupBits // set in all bytes of a number but its last
	maxGroups = 5              // of a number of 32 bits
)

// PutUint, Uint, PutText, Text: the parts of which files are made.
func PutUint(b []byte, n uint32) []byte { return addUint(anew(b), n) }

func Uint(b []byte, at int) (uint32, int, bool) {
	if at < 0 || at > len(b) {
		return 0, 0, false
	}
	var n uint64 // five groups have more bits than a word
	for i, c := range b[at:] {
		if i == maxGroups {
			break
		}
		n |= uint64(c&groupMask) << (groupBits * i)
		if c&moreBit != 0 {
			continue
		}
		if n > maxUint || c == 0 && i > 0 { // a last group of noughts is one too many
			break
		}
		return uint32(n), at + i + 1, true
	}
	return 0, 0, false
}

func PutText(b []byte, s string) []byte { return addText(anew(b), s) }

func Text(b []byte, at, most int) (string, int, bool) {
	n, from, ok := Uint(b, at)
	if !ok || int64(n) > int64(most) || int64(n) > int64(len(b)-from) {
		return "", 0, false
	}
	behind := from + int(n)
	return string(b[from:behind]), behind, true
}

// anew is the same bytes in new memory.
func anew(b []byte) []byte { return append([]byte(nil), b...) }

// addUint and addText add to bytes that nobody else has: to copy them for each thing of an object would take too long.
func addUint(b []byte, n uint32) []byte {
	for n > groupMask {
		b = append(b, byte(n&groupMask|moreBit))
		n >>= groupBits
	}
	return append(b, byte(n))
}

func addText(b []byte, s string) []byte {
	return append(addUint(b, uint32(len(s))), s...)
}
