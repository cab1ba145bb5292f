package word

import (
	"bytes"
	"fmt"
	"hash/fnv"
	"math"
	"math/big"
	"strconv"
	"strings"
	"testing"

	"carrel/api"
)

// edges are the words about which carries, signs and digits turn.
var edges = []uint32{
	0, 1, 2, 3, 7, 9, 10, 15, 16, 31, 32, 33, 255, 256, 0x7FFF, 0x8000, 0xFFFF, 0x10000, 0xABCD,
	0x12345678, 0x3FFFFFFF, 0x40000000, 0x7FFFFFFE, 0x7FFFFFFF, 0x80000000, 0x80000001,
	0x89ABCDEF, 0xC0000000, 0xFFFF0000, 0xFFFFFFF9, 0xFFFFFFFE, 0xFFFFFFFF,
}

func neg(n int32) uint32 { return uint32(-n) }

func bare(a uint32) *big.Int { return new(big.Int).SetUint64(uint64(a)) }

// signed works the number with a sign out by its rule, not by a conversion: that is what the package does.
func signed(a uint32) *big.Int {
	n := bare(a)
	if a >= 1<<31 {
		n.Sub(n, power(32))
	}
	return n
}

func power(n uint) *big.Int { return new(big.Int).Lsh(big.NewInt(1), n) }

func bit(b bool) *big.Int {
	if b {
		return big.NewInt(1)
	}
	return big.NewInt(0)
}

// low is a whole number's lowest 32 bits.
func low(n *big.Int) uint32 {
	return uint32(new(big.Int).Mod(n, power(32)).Uint64())
}

func outOfSigned(n *big.Int) bool {
	return n.Cmp(new(big.Int).Neg(power(31))) < 0 || n.Cmp(power(31)) >= 0
}

type sumCase struct {
	a, b   uint32
	in     bool
	want   uint32
	out, v bool
}

func TestAddExamples(t *testing.T) { // P1.1
	for _, x := range []sumCase{
		{0xFFFFFFFF, 1, false, 0, true, false},
		{0x7FFFFFFF, 0, true, 0x80000000, false, true},
		{0x80000000, 0x80000000, false, 0, true, true},
		{2, 3, false, 5, false, false},
		{2, 3, true, 6, false, false},
		{0xFFFFFFFF, 0, true, 0, true, false},
		{0xFFFFFFFF, 0xFFFFFFFF, true, 0xFFFFFFFF, true, false},
		{0x80000000, 0xFFFFFFFF, false, 0x7FFFFFFF, true, true},
		{0x80000000, 0xFFFFFFFF, true, 0x80000000, true, false},
		{0x7FFFFFFF, 0x80000000, true, 0, true, false},
	} {
		if s, c, v := Add(x.a, x.b, x.in); s != x.want || c != x.out || v != x.v {
			t.Errorf("Add(%X, %X, %v) = %X %v %v", x.a, x.b, x.in, s, c, v)
		}
	}
}

func TestSubExamples(t *testing.T) { // P1.1
	for _, x := range []sumCase{
		{0, 1, false, 0xFFFFFFFF, true, false},
		{0x80000000, 1, false, 0x7FFFFFFF, false, true},
		{5, 4, true, 0, false, false},
		{5, 4, false, 1, false, false},
		{4, 4, true, 0xFFFFFFFF, true, false},
		{0, 0, true, 0xFFFFFFFF, true, false},
		{0, 0xFFFFFFFF, true, 0, true, false},
		{0, 0x80000000, false, 0x80000000, true, true},
		{0, 0x80000000, true, 0x7FFFFFFF, true, false},
		{0x7FFFFFFF, 0xFFFFFFFF, false, 0x80000000, true, true},
	} {
		if s, c, v := Sub(x.a, x.b, x.in); s != x.want || c != x.out || v != x.v {
			t.Errorf("Sub(%X, %X, %v) = %X %v %v", x.a, x.b, x.in, s, c, v)
		}
	}
}

func TestAddAndSubByTrueNumbers(t *testing.T) { // P1.1
	for _, a := range edges {
		for _, b := range edges {
			for _, in := range []bool{false, true} {
				total := new(big.Int).Add(new(big.Int).Add(bare(a), bare(b)), bit(in))
				withSigns := new(big.Int).Add(new(big.Int).Add(signed(a), signed(b)), bit(in))
				if s, c, v := Add(a, b, in); s != low(total) || c != (total.Cmp(power(32)) >= 0) || v != outOfSigned(withSigns) {
					t.Fatalf("Add(%X, %X, %v) = %X %v %v", a, b, in, s, c, v)
				}
				total = new(big.Int).Sub(new(big.Int).Sub(bare(a), bare(b)), bit(in))
				withSigns = new(big.Int).Sub(new(big.Int).Sub(signed(a), signed(b)), bit(in))
				if s, c, v := Sub(a, b, in); s != low(total) || c != (total.Sign() < 0) || v != outOfSigned(withSigns) {
					t.Fatalf("Sub(%X, %X, %v) = %X %v %v", a, b, in, s, c, v)
				}
			}
		}
	}
}

func TestMulExamples(t *testing.T) { // P1.2
	for _, x := range []struct {
		a, b     uint32
		unsigned bool
		lo, hi   uint32
	}{
		{0xFFFFFFFF, 2, true, 0xFFFFFFFE, 1},
		{0xFFFFFFFF, 2, false, 0xFFFFFFFE, 0xFFFFFFFF},
		{6, 7, true, 42, 0},
		{6, 7, false, 42, 0},
		{0xFFFFFFFF, 0xFFFFFFFF, true, 1, 0xFFFFFFFE},
		{0xFFFFFFFF, 0xFFFFFFFF, false, 1, 0},
		{0x80000000, 0x80000000, true, 0, 0x40000000},
		{0x80000000, 0x80000000, false, 0, 0x40000000},
		{0x80000000, 1, false, 0x80000000, 0xFFFFFFFF},
		{0x80000000, 1, true, 0x80000000, 0},
	} {
		if lo, hi := Mul(x.a, x.b, x.unsigned); lo != x.lo || hi != x.hi {
			t.Errorf("Mul(%X, %X, %v) = %X %X", x.a, x.b, x.unsigned, lo, hi)
		}
	}
}

func TestMulByTrueNumbers(t *testing.T) { // P1.2
	for _, a := range edges {
		for _, b := range edges {
			for _, unsigned := range []bool{false, true} {
				product := new(big.Int).Mul(signed(a), signed(b))
				if unsigned {
					product = new(big.Int).Mul(bare(a), bare(b))
				}
				wantLo, wantHi := low(product), low(new(big.Int).Rsh(product, 32))
				if lo, hi := Mul(a, b, unsigned); lo != wantLo || hi != wantHi {
					t.Fatalf("Mul(%X, %X, %v) = %X %X, want %X %X", a, b, unsigned, lo, hi, wantLo, wantHi)
				}
			}
		}
	}
}

func TestDivExamples(t *testing.T) { // P1.2
	for _, x := range []struct {
		a, b, q, r uint32
		ok         bool
	}{
		{neg(7), 2, neg(4), 1, true},
		{7, 2, 3, 1, true},
		{7, 0, 0, 0, false},
		{7, neg(1), 0, 0, false},
		{0, 0, 0, 0, false},
		{0, 5, 0, 0, true},
		{neg(8), 2, neg(4), 0, true},
		{neg(1), 0x7FFFFFFF, neg(1), 0x7FFFFFFE, true},
		{0x80000000, 1, 0x80000000, 0, true},
		{0x80000000, 0x7FFFFFFF, neg(2), 0x7FFFFFFE, true},
		{0x80000000, 0xFFFFFFFF, 0, 0, false},
		{1, 0x80000000, 0, 0, false},
	} {
		if q, r, ok := Div(x.a, x.b); q != x.q || r != x.r || ok != x.ok {
			t.Errorf("Div(%X, %X) = %X %X %v", x.a, x.b, q, r, ok)
		}
	}
}

func TestDivIsTheGreatestQuotient(t *testing.T) { // P1.2
	for _, a := range edges {
		for _, b := range edges {
			q, r, ok := Div(a, b)
			if signed(b).Sign() <= 0 {
				if q != 0 || r != 0 || ok {
					t.Fatalf("Div(%X, %X) = %X %X %v", a, b, q, r, ok)
				}
				continue
			}
			part := new(big.Int).Mul(signed(q), signed(b))
			next := new(big.Int).Add(part, signed(b))
			rest := new(big.Int).Sub(signed(a), part)
			if !ok || part.Cmp(signed(a)) > 0 || next.Cmp(signed(a)) <= 0 || rest.Cmp(bare(r)) != 0 {
				t.Fatalf("Div(%X, %X) = %X %X %v", a, b, q, r, ok)
			}
		}
	}
}

// moved builds what a move gives bit by bit: from tells for each place which bit of a comes there (-1: 0).
func moved(a uint32, from func(place int) int) uint32 {
	var w uint32
	for place := range 32 {
		if f := from(place); f >= 0 && a>>f&1 == 1 {
			w |= 1 << place
		}
	}
	return w
}

func TestMoveExamples(t *testing.T) { // P1.3
	for _, x := range []struct {
		name      string
		got, want uint32
	}{
		{"Lsl(1, 33)", Lsl(1, 33), 2},
		{"Lsl(1, 31)", Lsl(1, 31), 0x80000000},
		{"Lsl(3, 31)", Lsl(3, 31), 0x80000000},
		{"Lsl(5, 32)", Lsl(5, 32), 5},
		{"Asr(80000000, 31)", Asr(0x80000000, 31), 0xFFFFFFFF},
		{"Asr(40000000, 30)", Asr(0x40000000, 30), 1},
		{"Asr(80000000, 32)", Asr(0x80000000, 32), 0x80000000},
		{"Ror(1, 1)", Ror(1, 1), 0x80000000},
		{"Ror(12345678, 8)", Ror(0x12345678, 8), 0x78123456},
		{"Ror(12345678, 0)", Ror(0x12345678, 0), 0x12345678},
		{"Ror(12345678, 32)", Ror(0x12345678, 32), 0x12345678},
	} {
		if x.got != x.want {
			t.Errorf("%s = %X, want %X", x.name, x.got, x.want)
		}
	}
}

func TestMovesBitByBit(t *testing.T) { // P1.3
	counts := append([]uint32{34, 63, 64, 65, 0x80000001, 0xFFFFFFE0, 0xFFFFFFFF}, edges...)
	for n := range uint32(34) {
		counts = append(counts, n)
	}
	for _, a := range edges {
		for _, n := range counts {
			by := int(n % 32)
			if got, want := Lsl(a, n), moved(a, func(p int) int { return max(p-by, -1) }); got != want {
				t.Fatalf("Lsl(%X, %d) = %X, want %X", a, n, got, want)
			}
			if got, want := Asr(a, n), moved(a, func(p int) int { return min(p+by, 31) }); got != want {
				t.Fatalf("Asr(%X, %d) = %X, want %X", a, n, got, want)
			}
			if got, want := Ror(a, n), moved(a, func(p int) int { return (p + by) % 32 }); got != want {
				t.Fatalf("Ror(%X, %d) = %X, want %X", a, n, got, want)
			}
		}
	}
}

func TestSextExamples(t *testing.T) { // P1.4
	for _, x := range []struct {
		a    uint32
		bits int
		want int
	}{
		{0xFFFFF, 20, -1}, {7, 3, -1}, {7, 4, 7}, {1, 0, 0}, {0x80000000, 32, -2147483648},
		{0x7FFFFFFF, 32, 2147483647}, {1, 1, -1}, {2, 1, 0}, {0xFFF7FFFF, 20, 0x7FFFF}, {0x80000, 20, -0x80000},
		{0x800000, 24, -0x800000}, {0xFF000005, 24, 5},
		{1, 33, 0}, {1, -1, 0}, {0xFFFFFFFF, 64, 0}, {0xFFFFFFFF, math.MaxInt, 0}, {0xFFFFFFFF, math.MinInt, 0},
	} {
		if got := Sext(x.a, x.bits); got != x.want {
			t.Errorf("Sext(%X, %d) = %d, want %d", x.a, x.bits, got, x.want)
		}
	}
}

func TestSextByTheRule(t *testing.T) { // P1.4
	for _, a := range edges {
		for bits := 1; bits <= 32; bits++ {
			want := int64(a) % (1 << bits)
			if want >= 1<<(bits-1) {
				want -= 1 << bits
			}
			if got := Sext(a, bits); int64(got) != want {
				t.Fatalf("Sext(%X, %d) = %d, want %d", a, bits, got, want)
			}
		}
	}
}

var noPlaces = []int{-1, -4, math.MinInt, math.MinInt + 3, math.MaxInt, math.MaxInt - 1, math.MaxInt - 3, math.MaxInt - 4}

func TestGet(t *testing.T) { // P1.5
	b := []byte{1, 2, 3, 4, 0xFF, 0xFE, 0xFD}
	for _, x := range []struct {
		at   int
		want uint32
		ok   bool
	}{
		{0, 0x04030201, true}, {1, 0xFF040302, true}, {2, 0xFEFF0403, true}, {3, 0xFDFEFF04, true},
		{4, 0, false}, {5, 0, false}, {7, 0, false}, {8, 0, false},
	} {
		if w, ok := Get(b, x.at); w != x.want || ok != x.ok {
			t.Errorf("Get(.., %d) = %X %v", x.at, w, ok)
		}
	}
	if w, ok := Get([]byte{1, 2, 3, 4}, 1); w != 0 || ok {
		t.Errorf("Get(01 02 03 04, 1) = %X %v", w, ok)
	}
	for n := range 4 { // too short, whatever the spare room
		if w, ok := Get(b[:n], 0); w != 0 || ok {
			t.Errorf("Get of %d bytes = %X %v", n, w, ok)
		}
	}
	for _, at := range noPlaces {
		for _, l := range [][]byte{nil, {}, b} {
			if w, ok := Get(l, at); w != 0 || ok {
				t.Errorf("Get of %d bytes at %d = %X %v", len(l), at, w, ok)
			}
		}
	}
	if w, ok := Get(nil, 0); w != 0 || ok {
		t.Errorf("Get(nil, 0) = %X %v", w, ok)
	}
	if !bytes.Equal(b, []byte{1, 2, 3, 4, 0xFF, 0xFE, 0xFD}) {
		t.Error("Get has written", b)
	}
}

func TestPut(t *testing.T) { // P1.5
	for at := range 4 {
		b := []byte{9, 9, 9, 9, 9, 9, 9}
		want := []byte{9, 9, 9, 9, 9, 9, 9}
		copy(want[at:], []byte{0xDD, 0xCC, 0xBB, 0xAA})
		if !Put(b, at, 0xAABBCCDD) || !bytes.Equal(b, want) {
			t.Errorf("Put at %d: % X", at, b)
		}
	}
}

func TestPutWithoutPlace(t *testing.T) { // P1.5
	room := []byte{9, 8, 7, 6, 5, 4, 3, 2}
	same := bytes.Clone(room)
	for n := range len(room) {
		places := append([]int{n - 3, n - 2, n - 1, n, n + 1, n + 4}, noPlaces...)
		for _, at := range places {
			if at >= 0 && at+4 > 0 && at+4 <= n {
				continue
			}
			if Put(room[:n], at, 0xAABBCCDD) || !bytes.Equal(room, same) {
				t.Fatalf("Put into %d bytes at %d: % X", n, at, room)
			}
		}
	}
	if Put(nil, 0, 1) || Put([]byte{}, 0, 1) {
		t.Error("Put into nothing")
	}
}

func TestHex(t *testing.T) { // P1.6
	if got := Hex(0xABCD); got != "0000ABCD" {
		t.Error(got)
	}
	for _, w := range edges {
		if got, want := Hex(w), fmt.Sprintf("%08X", w); got != want {
			t.Errorf("Hex(%d) = %q, want %q", w, got, want)
		}
	}
}

func TestUnhex(t *testing.T) { // P1.6
	for _, s := range []string{"0", "7", "A", "F", "ABCD", "00", "0000ABCD", "FFFFFFFF", "80000000", "01234567", "89ABCDEF", "00000000", "10"} {
		want, err := strconv.ParseUint(s, 16, 32)
		if err != nil {
			t.Fatal(err)
		}
		if w, e := Unhex(s); w != uint32(want) || e != api.OK {
			t.Errorf("Unhex(%q) = %X %v", s, w, e)
		}
	}
}

func TestUnhexRefuses(t *testing.T) { // P1.6
	wrong := []string{
		"", "abcd", "Abcd", "a", "f", "G", "g", "123456789", "000000000", "0FFFFFFFF", strings.Repeat("0", 1000),
		" ", " 1", "1 ", "1 2", "-1", "+1", "0x1", "0X1", "1H", "1_0", "1.", "\x00", "1\x00", "\n", "/", ":", "@", "`",
		"é", "１", "\xff", "\xff\xff\xff\xff\xff\xff\xff\xff", "1234567é",
	}
	for _, s := range wrong {
		if w, e := Unhex(s); w != 0 || e != api.ErrWordHex {
			t.Errorf("Unhex(%q) = %X %v", s, w, e)
		}
	}
}

func TestUnhexOfEachByte(t *testing.T) { // P1.6
	for c := range 256 {
		at := strings.IndexByte("0123456789ABCDEF", byte(c))
		for _, around := range [][2]string{{"", ""}, {"1", ""}, {"", "1"}, {"123", "4567"}} {
			w, e := Unhex(around[0] + string([]byte{byte(c)}) + around[1])
			if at < 0 && (w != 0 || e != api.ErrWordHex) || at >= 0 && e != api.OK {
				t.Errorf("byte %X: %X %v", c, w, e)
			}
			if at >= 0 && around[0]+around[1] == "" && w != uint32(at) {
				t.Errorf("digit %c: %X", c, w)
			}
		}
	}
}

func TestErrorNumber(t *testing.T) { // the chapter's section Errors
	if _, e := Unhex(""); e != 10 {
		t.Error(int(e))
	}
}

func TestSum(t *testing.T) { // P1.7
	if Sum(nil) != 2166136261 || Sum([]byte{}) != 2166136261 || Sum([]byte("a")) != 0xE40C292C {
		t.Errorf("%X %X", Sum(nil), Sum([]byte("a")))
	}
	all := make([]byte, 0, 512)
	for i := range 512 {
		all = append(all, byte(i*37))
		h := fnv.New32a() // the same rule, told elsewhere
		h.Write(all)
		if got := Sum(all); got != h.Sum32() {
			t.Fatalf("Sum of %d bytes = %X, want %X", len(all), got, h.Sum32())
		}
	}
	if Sum([]byte{1, 2}) == Sum([]byte{2, 1}) {
		t.Error("Sum does not tell the bytes' order")
	}
}

func TestSumReadsOnly(t *testing.T) { // R3
	b := []byte("carrel")
	short := b[:3]
	if Sum(short) != Sum([]byte("car")) || string(b) != "carrel" {
		t.Errorf("%X %q", Sum(short), b)
	}
}

func TestSubUndoesAdd(t *testing.T) { // P1.8
	for _, a := range edges {
		for _, b := range edges {
			for _, in := range []bool{false, true} {
				sum, _, _ := Add(a, b, in)
				if back, _, _ := Sub(sum, b, in); back != a {
					t.Fatalf("%X and %X (%v): %X", a, b, in, back)
				}
			}
		}
	}
}

func TestAddTellsTheTrueSum(t *testing.T) { // P1.8
	for _, a := range edges {
		for _, b := range edges {
			for _, in := range []bool{false, true} {
				sum, carries, left := Add(a, b, in)
				told := bare(sum)
				if carries {
					told.Add(told, power(32))
				}
				truth := new(big.Int).Add(new(big.Int).Add(bare(a), bare(b)), bit(in))
				if told.Cmp(truth) != 0 {
					t.Fatalf("%X and %X (%v), without a sign: %v, not %v", a, b, in, told, truth)
				}
				told = signed(sum)
				if left && signed(a).Sign() >= 0 {
					told.Add(told, power(32))
				} else if left {
					told.Sub(told, power(32))
				}
				truth = new(big.Int).Add(new(big.Int).Add(signed(a), signed(b)), bit(in))
				if told.Cmp(truth) != 0 {
					t.Fatalf("%X and %X (%v), with a sign: %v, not %v", a, b, in, told, truth)
				}
			}
		}
	}
}

func TestGetOfPut(t *testing.T) { // P1.8
	for _, w := range edges {
		for at := range 9 {
			b := make([]byte, 12)
			if !Put(b, at, w) {
				t.Fatal("no place at", at)
			}
			if got, ok := Get(b, at); got != w || !ok {
				t.Fatalf("Get of Put(%X) at %d = %X %v", w, at, got, ok)
			}
		}
	}
}

func TestUnhexOfHex(t *testing.T) { // P1.8
	for _, w := range edges {
		if got, e := Unhex(Hex(w)); got != w || e != api.OK {
			t.Errorf("Unhex(Hex(%X)) = %X %v", w, got, e)
		}
	}
	for place := range 32 {
		w := uint32(1) << place
		if got, e := Unhex(Hex(w)); got != w || e != api.OK {
			t.Errorf("Unhex(Hex(%X)) = %X %v", w, got, e)
		}
	}
}

func TestRorTurnsRound(t *testing.T) { // P1.8
	for _, w := range edges {
		for n := range uint32(33) {
			if got := Ror(Ror(w, n), 32-n); got != w {
				t.Errorf("Ror(Ror(%X, %d), %d) = %X", w, n, 32-n, got)
			}
		}
	}
}
