package obj

import (
	"bytes"
	"encoding/binary"
	"math"
	"math/rand"
	"strings"
	"testing"
)

var numberCases = []struct {
	n uint32
	b string
}{
	{300, "\xAC\x02"}, // the chapter's
	{0, "\x00"}, {1, "\x01"}, {127, "\x7F"}, {128, "\x80\x01"}, {129, "\x81\x01"}, {255, "\xFF\x01"},
	{16383, "\xFF\x7F"}, {16384, "\x80\x80\x01"}, {65536, "\x80\x80\x04"},
	{1<<21 - 1, "\xFF\xFF\x7F"}, {1 << 21, "\x80\x80\x80\x01"},
	{1<<28 - 1, "\xFF\xFF\xFF\x7F"}, {1 << 28, "\x80\x80\x80\x80\x01"},
	{1 << 31, "\x80\x80\x80\x80\x08"}, {1<<32 - 1, "\xFF\xFF\xFF\xFF\x0F"},
}

func TestPutUint(t *testing.T) { // P7.1
	for _, x := range numberCases {
		if b := PutUint(nil, x.n); string(b) != x.b {
			t.Errorf("PutUint(none, %d) = %x", x.n, b)
		}
		if b := PutUint([]byte("ahead"), x.n); string(b) != "ahead"+x.b {
			t.Errorf("PutUint(ahead, %d) = %x", x.n, b)
		}
	}
}

func TestUint(t *testing.T) { // P7.1
	for _, x := range numberCases {
		for _, ahead := range []string{"", "\x80", "ahead"} {
			for _, more := range []string{"", "\x00", "\x80\xFF"} {
				b := []byte(ahead + x.b + more)
				if n, at, ok := Uint(b, len(ahead)); n != x.n || at != len(ahead)+len(x.b) || !ok {
					t.Errorf("Uint(%x, %d) = %d, %d, %v", b, len(ahead), n, at, ok)
				}
			}
		}
		for n := range len(x.b) { // the bytes end within it
			noNumber(t, x.b[:n], 0)
		}
	}
}

func noNumber(t *testing.T, b string, at int) {
	t.Helper()
	if n, behind, ok := Uint([]byte(b), at); n != 0 || behind != 0 || ok {
		t.Errorf("Uint(%x, %d) = %d, %d, %v", b, at, n, behind, ok)
	}
	if s, behind, ok := Text([]byte(b), at, math.MaxInt); s != "" || behind != 0 || ok { // a text begins with a number
		t.Errorf("Text(%x, %d) = %q, %d, %v", b, at, s, behind, ok)
	}
}

func TestUintOfNone(t *testing.T) { // P7.1
	for _, b := range []string{
		"\x80\x00", "\xFF\xFF\xFF\xFF\x1F", // the chapter's
		"", "\x80", "\xFF\x80\x00", "\x80\x80\x00", "\x80\x80\x80\x80\x00", "\xFF\xFF\xFF\xFF\x10", "\xFF\xFF\xFF\xFF\x7F",
		"\x80\x80\x80\x80\x10", "\x80\x80\x80\x80\x80\x00", "\x80\x80\x80\x80\x80\x01", "\xFF\xFF\xFF\xFF\x8F\x00",
		"\xFF\xFF\xFF\xFF\xFF\xFF\xFF\xFF\xFF\x01", strings.Repeat("\x80", 100), strings.Repeat("\x80", 100) + "\x01",
	} {
		noNumber(t, b, 0)
	}
	for _, at := range []int{-1, 2, 3, -2, 1000, math.MaxInt, math.MinInt} {
		noNumber(t, "\x01\x01", at)
	}
}

// Of all rows of bytes about which numbers turn, those are numbers that the library writes so.
func TestUintByTheLibrary(t *testing.T) { // P7.1
	turns := []byte{0x00, 0x01, 0x0F, 0x10, 0x7F, 0x80, 0x81, 0x8F, 0x90, 0xFF}
	b := make([]byte, 6)
	for i := range 1000000 {
		for k, rest := 0, i; k < len(b); k, rest = k+1, rest/10 {
			b[k] = turns[rest%10]
		}
		n, size := binary.Uvarint(b)
		is := size > 0 && n <= math.MaxUint32 && bytes.Equal(binary.AppendUvarint(nil, n), b[:size])
		if !is {
			n, size = 0, 0
		}
		if got, at, ok := Uint(b, 0); uint64(got) != n || at != size || ok != is {
			t.Fatalf("Uint(%x, 0) = %d, %d, %v", b, got, at, ok)
		}
	}
}

func TestUintOfPutUint(t *testing.T) { // P7.1
	chance := rand.New(rand.NewSource(71))
	for i := range 300000 {
		n := uint32(i)
		if i%2 == 1 {
			n = chance.Uint32() >> (i / 2 % 32)
		}
		b := PutUint(nil, n)
		if !bytes.Equal(b, binary.AppendUvarint(nil, uint64(n))) {
			t.Fatalf("PutUint(none, %d) = %x", n, b)
		}
		if got, at, ok := Uint(b, 0); got != n || at != len(b) || !ok {
			t.Fatalf("Uint(%x, 0) = %d, %d, %v", b, got, at, ok)
		}
	}
}

func TestTexts(t *testing.T) { // P7.1
	for _, s := range []string{"", "a", "\x00", "\xFF\x80", "ä", strings.Repeat("x", 127), strings.Repeat("x", 128), strings.Repeat("\x00", 70000)} {
		want := "ahead" + string(binary.AppendUvarint(nil, uint64(len(s)))) + s
		b := PutText([]byte("ahead"), s)
		if string(b) != want || string(PutText(nil, s)) != want[5:] {
			t.Errorf("PutText of %d bytes: %.20x", len(s), b)
		}
		for _, most := range []int{len(s), len(s) + 1, math.MaxInt} {
			if got, at, ok := Text(append(b, "more"...), 5, most); got != s || at != len(want) || !ok {
				t.Errorf("Text of %d bytes, at most %d: %d, %v", len(s), most, at, ok)
			}
		}
		noText(t, b, 5, len(s)-1)
		noText(t, b[:len(b)-1], 5, math.MaxInt) // the bytes end within it
	}
}

func noText(t *testing.T, b []byte, at, most int) {
	t.Helper()
	if s, behind, ok := Text(b, at, most); s != "" || behind != 0 || ok {
		t.Errorf("Text(%.20x, %d, %d) = %q, %d, %v", b, at, most, s, behind, ok)
	}
}

func TestTextOfNone(t *testing.T) { // P7.1
	two := []byte("\x02ab\x00")
	for _, at := range []int{-1, 4, 5, 1000, math.MaxInt, math.MinInt} {
		noText(t, two, at, 100)
	}
	for _, most := range []int{1, 0, -1, math.MinInt} {
		noText(t, two, 0, most)
	}
	noText(t, two, 3, -1) // none has fewer bytes than none
	noText(t, two, 1, 200)
	noText(t, []byte("\xFF\xFF\xFF\xFF\x0Fab"), 0, math.MaxInt)
	noText(t, []byte("\x81\x00a"), 0, 100)
	noText(t, []byte("\x04abc"), 0, 100)
	if s, at, ok := Text(two, 3, 0); s != "" || at != 4 || !ok {
		t.Errorf("the empty text: %q, %d, %v", s, at, ok)
	}
}

func TestPutAnswersNewMemory(t *testing.T) { // P7.1, P7.4
	for what, put := range map[string]func([]byte) []byte{
		"PutUint": func(b []byte) []byte { return PutUint(b, 300) },
		"PutText": func(b []byte) []byte { return PutText(b, "s") },
	} {
		for n := range 6 {
			room := []byte("abcde....")
			out := put(room[:n])
			if string(room) != "abcde...." {
				t.Errorf("%s writes into spare room: %q", what, room)
			}
			clear(out[:cap(out)])
			if string(room) != "abcde...." {
				t.Errorf("%s shares: %q", what, room)
			}
		}
	}
}

func TestTextAnswersNewMemory(t *testing.T) { // P7.4
	b := []byte("\x03abc")
	s, _, _ := Text(b, 0, 3)
	clear(b)
	if s != "abc" {
		t.Errorf("%q", s)
	}
}
