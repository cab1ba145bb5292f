// Package word is layer 1: see shared/doc/01-word.md.
package word

import (
	"math"

	"carrel/api"
)

const (
	wordBits  = 32
	wordBytes = 4
	byteBits  = 8
	digitBits = 4
	maxDigits = 8 // of a word in hexadecimal
)

// digits stand at the places of their values.
const digits = "0123456789ABCDEF"

// The sum over bytes begins with sumStart, and is spread by sumFactor at each byte.
const (
	sumStart  uint32 = 2166136261
	sumFactor uint32 = 16777619
)

// Add is a sum of 32 bits, and one more with carry: the sum, whether it carries, whether it leaves the numbers with a sign.
func Add(a, b uint32, carry bool) (uint32, bool, bool) {
	more := oneIf(carry)
	bare := int64(a) + int64(b) + more
	signed := withSign(a) + withSign(b) + more
	return uint32(bare), bare > math.MaxUint32, leaves(signed)
}

// Sub is a difference, and one less with borrow: likewise.
func Sub(a, b uint32, borrow bool) (uint32, bool, bool) {
	less := oneIf(borrow)
	bare := int64(a) - int64(b) - less
	signed := withSign(a) - withSign(b) - less
	return uint32(bare), bare < 0, leaves(signed)
}

// oneIf is 1, if the bit is set, else 0.
func oneIf(bit bool) int64 {
	if bit {
		return 1
	}
	return 0
}

// withSign is a word's number with a sign, wide enough for sums and products of two.
func withSign(a uint32) int64 { return int64(int32(a)) }

// leaves: is a number outside of those that a word has with a sign?
func leaves(n int64) bool { return n < math.MinInt32 || n > math.MaxInt32 }

// Mul is a product of 64 bits: its lower half, its upper half.
func Mul(a, b uint32, unsigned bool) (uint32, uint32) {
	product := uint64(a) * uint64(b)
	if !unsigned {
		product = uint64(withSign(a) * withSign(b))
	}
	return uint32(product), uint32(product >> wordBits)
}

// Div is a quotient, downwards, and the rest; false: the divisor is not above 0.
func Div(a, b uint32) (uint32, uint32, bool) {
	whole, by := withSign(a), withSign(b)
	if by <= 0 {
		return 0, 0, false
	}
	quotient, rest := whole/by, whole%by
	if rest < 0 { // Go's quotient goes towards 0, this one downwards
		quotient--
		rest += by
	}
	return uint32(quotient), uint32(rest), true
}

// Lsl, Asr, Ror move bits.
func Lsl(a uint32, n uint32) uint32 { return a << (n % wordBits) }

func Asr(a uint32, n uint32) uint32 { return uint32(int32(a) >> (n % wordBits)) }

func Ror(a uint32, n uint32) uint32 {
	by := n % wordBits
	return a>>by | a<<(wordBits-by)
}

// Sext is a number of so many bits, with its sign.
func Sext(a uint32, bits int) int {
	if bits < 1 || bits > wordBits {
		return 0
	}
	above := wordBits - bits
	return int(int32(a<<above) >> above)
}

// Get is the word at a place of bytes; Put lays one there.
func Get(b []byte, at int) (uint32, bool) {
	if !holdsWord(b, at) {
		return 0, false
	}
	return together(byteBits, b[at], b[at+1], b[at+2], b[at+3]), true
}

func Put(b []byte, at int, w uint32) bool {
	if !holdsWord(b, at) {
		return false
	}
	for i := range wordBytes {
		b[at+i] = byte(w >> (byteBits * i))
	}
	return true
}

// holdsWord: do all of a word's bytes stand in b from at on? (at stands alone, for at + 4 may wrap round.)
func holdsWord(b []byte, at int) bool { return at >= 0 && at <= len(b)-wordBytes }

// together puts a word together from parts of so many bits each, the lowest first.
func together(bits int, parts ...byte) uint32 {
	var w uint32
	for i := range len(parts) {
		w |= uint32(parts[i]) << (bits * i)
	}
	return w
}

// Hex writes a word's eight digits; Unhex reads them.
func Hex(w uint32) string {
	out := make([]byte, maxDigits)
	for i := range maxDigits {
		out[maxDigits-1-i] = digits[(w>>(digitBits*i))%16]
	}
	return string(out)
}

func Unhex(s string) (uint32, api.Errno) {
	if len(s) < 1 || len(s) > maxDigits {
		return 0, api.ErrWordHex
	}
	values := make([]byte, len(s))
	for i := range len(s) {
		value, ok := digitValue(s[len(s)-1-i])
		if !ok {
			return 0, api.ErrWordHex
		}
		values[i] = value
	}
	return together(digitBits, values...), api.OK
}

// digitValue is a digit's number; false: the byte is none.
func digitValue(c byte) (byte, bool) {
	for v := range len(digits) {
		if digits[v] == c {
			return byte(v), true
		}
	}
	return 0, false
}

// Sum is a sum over bytes, by which they are known.
func Sum(b []byte) uint32 {
	h := sumStart
	for i := range len(b) {
		h = (h ^ uint32(b[i])) * sumFactor
	}
	return h
}
