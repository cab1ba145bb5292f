package asm

import (
	"fmt"
	"math"
	"math/rand"
	"slices"
	"strings"
	"testing"

	"carrel/api"
)

// lines are a text whose lines are parted by /.
func lines(s string) string { return strings.ReplaceAll(s, "/", "\n") }

// reads asks for what a text is read as.
func reads(t *testing.T, text string, want ...uint32) {
	t.Helper()
	if words, line, e := Parse(text); !slices.Equal(words, want) || line != 0 || e != api.OK {
		t.Errorf("Parse(%q) = %08x, %d, %v; want %08x", text, words, line, e, want)
	}
}

// refuses asks for the line at which a text is refused.
func refuses(t *testing.T, text string, want int) {
	t.Helper()
	if words, line, e := Parse(text); len(words) != 0 || line != want || e != api.ErrAsmLine {
		t.Errorf("Parse(%q) = %08x, %d, %v; want line %d", text, words, line, e, want)
	}
}

// writes asks for a text of words that is not too long.
func writes(t *testing.T, words []uint32) string {
	t.Helper()
	text, e := Text(words)
	if e != api.OK {
		t.Fatalf("Text of %d words: %v", len(words), e)
	}
	return text
}

var showExamples = []struct {
	w    uint32
	text string
}{
	{0x40000005, "MOV R0, 5"}, {0x5000FFFF, "MOVV R0, 65535"}, {0x6100FFFF, "MOVU R1, 65535"},
	{0x21000000, "MOVH R1"}, {0x31000000, "MOVF R1"}, {0x00000003, "MOV R0, R3"},
	{0x01280003, "ADD R1, R2, R3"}, {0x21280003, "ADDU R1, R2, R3"}, {0x51290001, "SUBV R1, R2, 1"}, {0x716A0002, "MULUV R1, R6, 2"},
	{0x823FFFFC, "LDW R2, R3, -4"}, {0xB2300004, "STB R2, R3, 4"}, {0x400F0007, "TRAP 7"},
	{0xE7FFFFFF, "JMP AL, 100"}, {0xF1000001, "CALL EQ, 108"}, {0xC700000F, "JMP AL, R15"}, {0xEF000000, "JMP NV, 104"},
	{0x400C0000, "WORD 400C0000"},
	// beside the chapter's
	{0x00000000, "MOV R0, R0"}, {0x0FFB000F, "DIV R15, R15, R15"}, {0x7FFAFFFF, "MULUV R15, R15, 65535"},
	{0x40000000, "MOV R0, 0"}, {0x400F0000, "TRAP 0"}, {0x400FFFFF, "TRAP 65535"},
	{0x93400000, "LDB R3, R4, 0"}, {0xAFF7FFFF, "STW R15, R15, 524287"}, {0x80080000, "LDW R0, R0, -524288"},
	{0xD000000A, "CALL MI, R10"}, {0xE0800000, "JMP MI, 4261412968"}, {0xE07FFFFF, "JMP MI, 33554532"},
	{0x00000010, "WORD 00000010"}, {0x0000ABC0, "WORD 0000ABC0"}, {0x4F0F0000, "WORD 4F0F0000"}, {0x10000000, "WORD 10000000"}, {0xC7000010, "WORD C7000010"},
}

func TestShowExamples(t *testing.T) { // P6.1
	for _, x := range showExamples {
		if got := Show(x.w, 100); got != x.text {
			t.Errorf("Show(%08X, 100) = %q, not %q", x.w, got, x.text)
		}
	}
}

var lowHalves = []uint32{0, 1, 7, 9, 0xA, 0xF, 0x10, 0x1F, 0x100, 0x7FFF, 0x8000, 0xFFF0, 0xFFFF}

// Each upper half is gone through: it has all of format, u, v, op, a and b.
func TestShowOfEachUpperHalf(t *testing.T) { // P6.1
	for high := range uint32(1 << 16) {
		for k, low := range lowHalves {
			w, at := high<<16|low, 4*high+uint32(k)<<28
			if got, want := Show(w, at), plainShow(w, at); got != want {
				t.Fatalf("Show(%08X, %d) = %q, not %q", w, at, got, want)
			}
		}
	}
}

func TestShowGoesRoundTheAddresses(t *testing.T) { // P6.1
	for _, x := range []struct {
		w, at uint32
		text  string
	}{
		{0xE7FFFFFF, 0, "JMP AL, 0"},
		{0xE7FFFFFE, 0, "JMP AL, 4294967292"},
		{0xE7800000, 0, "JMP AL, 4261412868"},
		{0xE77FFFFF, 0, "JMP AL, 33554432"},
		{0xF7000000, 4294967292, "CALL AL, 0"},
		{0xF7000001, 4294967292, "CALL AL, 4"},
		{0xF7FFFFFF, 4294967292, "CALL AL, 4294967292"},
		{0xE7000000, 1, "JMP AL, 5"},
		{0xE7000000, 4294967295, "JMP AL, 3"},
		{0xC7000003, 4294967295, "JMP AL, R3"},
		{0x823FFFFC, 4294967295, "LDW R2, R3, -4"},
	} {
		if got := Show(x.w, x.at); got != x.text {
			t.Errorf("Show(%08X, %d) = %q, not %q", x.w, x.at, got, x.text)
		}
	}
}

func TestShowOfWordsOfChance(t *testing.T) { // P6.1
	chance := rand.New(rand.NewSource(6))
	for range 100000 {
		w, at := chance.Uint32(), chance.Uint32()
		if got, want := Show(w, at), plainShow(w, at); got != want {
			t.Fatalf("Show(%08X, %d) = %q, not %q", w, at, got, want)
		}
	}
}

func TestTextExamples(t *testing.T) { // P6.2
	for _, x := range []struct {
		words []uint32
		text  string
	}{
		{nil, ""},
		{[]uint32{}, ""},
		{[]uint32{0x40000007}, "MOV R0, 7\n"},
		{[]uint32{0x400C0000}, "WORD 400C0000\n"},
		{[]uint32{0xE7FFFFFF, 0xE7FFFFFF, 0xE7FFFFFD, 0xEF000001}, "JMP AL, 0/JMP AL, 4/JMP AL, 0/JMP NV, 20/"},
		{[]uint32{0xFFFFFFFF, 0, 0x00000010, 0xF1FFFFFB}, "CALL NV, 0/MOV R0, R0/WORD 00000010/CALL EQ, 4294967292/"},
	} {
		if text, e := Text(x.words); text != lines(x.text) || e != api.OK {
			t.Errorf("Text(%08x) = %q, %v; want %q", x.words, text, e, lines(x.text))
		}
	}
}

func TestTextIsShowOfEach(t *testing.T) { // P6.2
	chance := rand.New(rand.NewSource(62))
	for range 50 {
		words := wordsOfChance(chance, chance.Intn(2000))
		var want strings.Builder
		for k, w := range words {
			want.WriteString(Show(w, uint32(4*k)) + "\n")
		}
		if text := writes(t, words); text != want.String() {
			t.Fatalf("Text(%08x) = %q", words, text)
		}
	}
}

// manyAnd are so many of one word, then those that stand behind them.
func manyAnd(many int, w uint32, behind ...uint32) []uint32 {
	return append(slices.Repeat([]uint32{w}, many), behind...)
}

func TestTextTooLong(t *testing.T) { // P6.2
	const trap = 0x400F0007 // 7 bytes, the shortest
	for _, x := range []struct {
		words []uint32
		bytes int // 0: too many
	}{
		{manyAnd(5957, 0), 65527}, // MOV R0, R0: 11 bytes each
		{manyAnd(5958, 0), 0},
		{manyAnd(5957, 0, 0x21000000), 65535},
		{manyAnd(5957, 0, 0x2A000000), 65536}, // MOVH R10: 9 bytes
		{manyAnd(5957, 0, 0x400F03E8), 0},     // TRAP 1000: 10 bytes
		{manyAnd(5957, 0, 0x400C0000), 0},
		{manyAnd(9362, trap), 65534},
		{manyAnd(9363, trap), 0},
		{manyAnd(16384, trap), 0},
		{manyAnd(16385, trap), 0},
		{make([]uint32, 1<<20), 0},
	} {
		text, e := Text(x.words)
		if x.bytes == 0 && (text != "" || e != api.ErrAsmLong) || x.bytes > 0 && (len(text) != x.bytes || e != api.OK) {
			t.Errorf("Text of %d words: %d bytes, %v; want %d", len(x.words), len(text), e, x.bytes)
		}
	}
}

func TestTextLeavesItsWords(t *testing.T) { // P6.2, R3
	room := []uint32{0x40000005, 0xE7FFFFFF, 1, 2}
	before := slices.Clone(room)
	first := writes(t, room[:2])
	if !slices.Equal(room, before) {
		t.Errorf("the words are now %08x", room)
	}
	room[0] = 0
	if first != "MOV R0, 5\nJMP AL, 4\n" {
		t.Errorf("the text is now %q", first)
	}
}

func TestParseExamples(t *testing.T) { // P6.3
	reads(t, lines("MOV R0 ,5 ; x//JMP AL,0"), 0x40000005, 0xE7FFFFFE)
	for _, x := range []struct {
		text string
		line int
	}{
		{"MOV R0, 65536", 1}, {"/MOV R16, 1", 2}, {"JMP AL, 2", 1}, {"mov R0, 1", 1}, {"MOV R0 1", 1}, {"MOV R0, 1,", 1}, {"WORD 40g", 1},
	} {
		refuses(t, lines(x.text), x.line)
	}
	for _, x := range showExamples {
		if !strings.HasPrefix(x.text, "JMP") && !strings.HasPrefix(x.text, "CALL") {
			reads(t, x.text, x.w)
		}
		behind25 := strings.Repeat("TRAP 0\n", 25) // up to address 100
		if words, _, e := Parse(behind25 + x.text); e != api.OK || len(words) != 26 || words[25] != x.w {
			t.Errorf("%q at 100: %08x, %v; want %08x", x.text, words, e, x.w)
		}
	}
}

func TestParseOfNothing(t *testing.T) { // P6.3
	for _, text := range []string{
		"", "\n", "\n\n\n", " ", "\t", "\r", " \t\r", "\r\n\r\n", ";", ";;", " ; x", "; MOV R0, 1", ";\n;\n", "\t;\r\n ;,;\n",
		"; \x00\xff\x80\xC3 é 世", strings.Repeat("\n", 65536), strings.Repeat(" ", 65536), strings.Repeat(";", 65536),
	} {
		reads(t, text)
	}
}

func TestParseReadsLoosely(t *testing.T) { // P6.3, and what follows
	for _, text := range []string{
		"ADD R1, R2, R3", "ADD R1,R2,R3", "ADD  R1 , R2 , R3", "ADD\tR1\t,\tR2\t,\tR3\t", "ADD\rR1,\rR2,\rR3\r",
		" ADD R1, R2, R3", "\t\r ADD R1, R2, R3 \t\r", "ADD R1, R2, R3\r\n", "ADD R1, R2, R3;", "ADD R1, R2, R3; R4", "ADD R1, R2, R3 ; a ; b",
		"ADD R1, R2, R3;, R4", "ADD R1, R2, R3\n", "\nADD R1, R2, R3", "; x\n\n \nADD R1, R2, R3\n;\n ", "ADD R1, R2, R3; \xff\xfe é",
		"ADD \t\r \t\r R1, \t\r R2 \t\r , R3", "WORD 01280003", "WORD 1280003", "\tWORD\t1280003\t;x",
	} {
		reads(t, text, 0x01280003)
	}
}

// wrongLines say something that is no word of address 0 (nor, but where they are branches, of any).
var wrongLines = []string{
	// names
	"MOV", "ADD", "TRAP", "WORD", "JMP", "MOVH", "X", "R0", "5", ",", ",,", "-", "MOV,", "MOV;R0, 1", "MOV R0; , 1",
	"mov R0, 1", "Mov R0, 1", "MOVX R0, 1", "MO R0, 1", "MOVE R0, 1", "ADDX R1, R2, R3", "ADDVU R1, R2, 3", "ADDUU R1, R2, 3", "ADD U R1, R2, 3", "ADDu R1, R2, 3",
	"MOVR0, 1", "TRAP7", "WORD4", "JMPAL, 0", "MOV,R0,1", "MOV, R0, 1", "MO V R0, 1", "AL R0", "trap 0", "word 0", "jmp AL, 0", "HALT", "NOP", "DIVU R1, R2, R3",
	"MOV:R0, 1", "x MOV R0, 1", "MOV R0, 1 MOV R0, 1", "MOV R0, 1, MOV R0, 1", "START: MOV R0, 1", "# x", "// x", "(* x *)",
	// how many operands, and what parts them
	"MOV R0", "MOV R0,", "MOV ,R0, 1", "MOV R0,, 1", "MOV R0, 1,", "MOV R0, 1, ,", "MOV R0, 1, 2", "MOV R0, R1, R2", "MOV R0 1", "MOV R0 , 1 2", "MOV R0; 1", "MOV R0. 1",
	"MOVH", "MOVH R1,", "MOVH R1, R2", "MOVH R1, 0", "MOVF R1, R2", "MOVH 1", "MOVU R1", "MOVV R1",
	"ADD R1, R2", "ADD R1, 2", "ADD R1, R2, R3, R4", "ADD R1 R2 R3", "ADD R1, R2, ", "ADD , , ", "TRAP 1, 2", "TRAP R0, 1", "TRAP ,", "TRAP 1,",
	"LDW R1, R2", "LDW R1, 4", "LDW R1, R2, 4, 5", "JMP AL", "JMP AL,", "JMP 0", "JMP R1", "JMP AL, 0, 4", "JMP AL 0", "JMP AL, R1, R2", "CALL", "CALL R1",
	// registers
	"MOV R16, 1", "MOV R00, 1", "MOV R01, 1", "MOV R-1, 1", "MOV R+1, 1", "MOV R, 1", "MOV r0, 1", "MOV R 0, 1", "MOV R100, 1", "MOV 0, 1", "MOV 0, R1", "MOV AL, 1", "MOV RA, 1", "MOV R1x, 1",
	"MOV R0, R16", "MOV R0, R015", "ADD R1, R16, R3", "ADD R1, 2, 3", "ADD 1, R2, R3", "ADD R1, R2, R16", "ADD R1, R2, r3", "LDW R16, R2, 0", "LDW R1, R16, 0", "LDW R1, 2, 0", "LDW R1, R2, R3", "STB R1, R2, R3",
	"JMP AL, R16", "JMP AL, r1", "JMP R1, R2", "TRAP R1", "TRAP R0", "WORD R0", "MOVH R16", "MOV PC, 1", "MOV H, 1", "MOV R0, H",
	// numbers
	"MOV R0, -1", "MOV R0, 65536", "MOV R0, 01", "MOV R0, 00", "MOV R0, +1", "MOV R0, -0", "MOV R0, 1.", "MOV R0, 1e1", "MOV R0, 0x1", "MOV R0, 1H", "MOV R0, 1_0", "MOV R0, 1 0", "MOV R0, - 1", "MOV R0, --1", "MOV R0, -",
	"MOV R0, 4294967297", "MOV R0, 4294967296", "MOV R0, 18446744073709551616", "MOV R0, 18446744073709551617", "MOV R0, 99999999999999999999999999999999", "MOV R0, -18446744073709551615", "MOV R0, \"1\"", "MOV R0, 'a'", "MOV R0, A",
	"MOVV R0, -1", "MOVV R0, 65536", "MOVU R0, -1", "MOVU R0, 65536", "ADD R1, R2, -1", "ADD R1, R2, 65536", "ADDV R1, R2, -1", "ADDUV R1, R2, 65536", "TRAP -1", "TRAP 65536", "TRAP 00", "TRAP +0", "TRAP -0",
	"LDW R1, R2, 524288", "LDW R1, R2, -524289", "LDW R1, R2, -0", "LDW R1, R2, 00", "LDW R1, R2, -04", "LDW R1, R2, 04", "LDW R1, R2, +4", "LDW R1, R2, 4294967292", "LDB R1, R2, 524288", "STW R1, R2, -524289", "STB R1, R2, 1048575",
	// which of U and V may be set
	"MOVU R1, R0", "MOVU R1, R2", "MOVV R1, R2", "MOVUV R1, R2", "MOVUV R1, R0", "MOVUV R1, 1", "MOVHV R1", "MOVFU R1", "ADDV R1, R2, R3", "ADDUV R1, R2, R3", "SUBV R1, R2, R3", "MULUV R1, R2, R3", "LSLV R1, R2, R3", "DIVV R1, R2, R3",
	"LSLU R1, R2, 3", "ASRU R1, R2, 3", "RORU R1, R2, 3", "ANDU R1, R2, 3", "ANNU R1, R2, 3", "IORU R1, R2, 3", "XORU R1, R2, 3", "DIVU R1, R2, 3", "XORUV R1, R2, 3", "DIVUV R1, R2, 3", "LSLU R1, R2, R3", "TRAPU 1", "TRAPV 1", "TRAPUV 1",
	"LDWU R1, R2, 0", "LDWV R1, R2, 0", "LDBV R1, R2, 0", "STWU R1, R2, 0", "JMPV AL, 0", "CALLV AL, 0", "CALLU AL, 0", "LD R1, R2, 0", "ST R1, R2, 0", "LDR R1, R2, 0",
	// branches
	"JMP 7, 0", "JMP al, 0", "JMP XX, 0", "JMP A, 0", "JMP ALL, 0", "JMP , 0", "JMP AL, AL", "JMP AL, -4", "JMP AL, -0", "JMP AL, 00", "JMP AL, 04", "JMP AL, +4", "JMP AL, 1", "JMP AL, 2", "JMP AL, 3", "JMP AL, 4294967295",
	"JMP AL, 4294967296", "JMP AL, 4294967300", "JMP AL, 33554436", "JMP AL, 4261412864", "JMP AL, 2147483648", "JMP AL, 99999999999999999999", "JMP AL, 4H", "CALL AL, 2", "CALL AL, -4", "CALL 0, 0", "CALL AL, 33554436", "JMP AL, X",
	// digits
	"WORD 40g", "WORD abcd", "WORD 0x4", "WORD 123456789", "WORD 000000001", "WORD -1", "WORD +1", "WORD 4H", "WORD 4 5", "WORD 4, 5", "WORD 4,", "WORD ,4", "WORD 4000 0005", "WORD ,",
	// bytes that are no blanks
	"\x00", "\x0b", "\x0c", "\x85", "\u00a0", "\u2003", "\u2028", "\u3000", "\ufeff", "\x0cMOV R0, 1", "MOV\x0bR0, 1", "MOV\u00a0R0, 1", "MOV R0,\u00a01", "MOV R0, 1\u3000", "\ufeffMOV R0, 1", "MOV R0, 1\x00", "MOV R0, 1\x1a",
	// texts that are like others
	"MOV R0, \uff11", "MOV R\u0661, 1", "\uff2dOV R0, 1", "MOV R0\uff0c 1", "MOV R0, 1 \uff1b x", "MOV R0, \xff", "MOV R0, 1\x80", "\xffMOV R0, 1", "MOV \xc0\x8aR0, 1", "MOV R0, \xe2\x88\x921", "\xf0\x9f", "M\u0301OV R0, 1",
}

func TestParseRefuses(t *testing.T) { // P6.3
	for _, line := range wrongLines {
		refuses(t, line, 1)
		refuses(t, " \t"+line+" ; x", 1)
		refuses(t, "\n\n; x\n"+line+"\n", 4)
		refuses(t, line+"\nMOV R0, 1\n?", 1)
		if !strings.HasPrefix(line, "JMP") && !strings.HasPrefix(line, "CALL") {
			refuses(t, "MOV R0, 1\nMOV R0, 1\n\n"+line+"\n?", 4)
		}
	}
}

func TestParseTellsTheFirstWrongLine(t *testing.T) { // P6.3
	for _, x := range []struct {
		text string
		line int
	}{
		{"?", 1}, {"?/?", 1}, {"/?", 2}, {"//;/?", 4}, {"MOV R0, 1/?", 2}, {"MOV R0, 1/?/", 2}, {"MOV R0, 1/MOV R0, 1/;/MOV R0/MOV R0, 1", 4},
		{"MOV R0, 1\r/\r/?\r/", 3}, {"MOV R0,/1", 1}, {"MOV/R0, 1", 1}, {"; x/1", 2},
	} {
		refuses(t, lines(x.text), x.line)
	}
	refuses(t, strings.Repeat("\n", 65535)+"?", 65536)
	refuses(t, strings.Repeat("TRAP 0\n", 9000)+"TRAP", 9001)
	refuses(t, strings.Repeat("\n", 1000)+strings.Repeat("TRAP 0\n", 9000)+"TRAP", 10001)
}

func TestParseRegistersAndConditions(t *testing.T) { // P6.3
	for n := range uint32(16) {
		reads(t, fmt.Sprintf("MOVH R%d", n), 0x20000000|n<<24)
		reads(t, fmt.Sprintf("MOV R0, R%d", n), n)
		reads(t, fmt.Sprintf("ADD R%d, R%d, R%d", n, 15-n, n^5), 0x00080000|n<<24|(15-n)<<20|n^5)
		reads(t, fmt.Sprintf("LDB R%d, R%d, 1", n, 15-n), 0x90000001|n<<24|(15-n)<<20)
		reads(t, fmt.Sprintf("JMP %s, R%d", conditionNames[n], 15-n), 0xC0000000|n<<24|15-n)
		reads(t, fmt.Sprintf("CALL %s, 4", conditionNames[n]), 0xF0000000|n<<24)
	}
}

func TestParseOperations(t *testing.T) { // P6.3
	for op := uint32(1); op <= 11; op++ {
		name, bits := operationNames[op], 0x01200000|op<<16
		reads(t, name+" R1, R2, R3", bits|3)
		reads(t, name+" R1, R2, 3", 0x40000003|bits)
		reads(t, name+"V R1, R2, 3", 0x50000003|bits)
		refuses(t, name+"V R1, R2, R3", 1)
		refuses(t, name+"UV R1, R2, R3", 1)
		if op == 8 || op == 9 || op == 10 {
			reads(t, name+"U R1, R2, R3", 0x20000003|bits)
			reads(t, name+"U R1, R2, 3", 0x60000003|bits)
			reads(t, name+"UV R1, R2, 3", 0x70000003|bits)
			continue
		}
		refuses(t, name+"U R1, R2, R3", 1)
		refuses(t, name+"U R1, R2, 3", 1)
		refuses(t, name+"UV R1, R2, 3", 1)
	}
}

func TestParseNumbersAtTheirEdges(t *testing.T) { // P6.3
	for _, x := range []struct {
		text string
		w    uint32
	}{
		{"MOV R0, 0", 0x40000000}, {"MOV R0, 65535", 0x4000FFFF}, {"MOVU R0, 0", 0x60000000}, {"MOVU R0, 65535", 0x6000FFFF}, {"MOVV R0, 0", 0x50000000}, {"MOVV R0, 65535", 0x5000FFFF},
		{"ADD R0, R0, 0", 0x40080000}, {"SUBUV R0, R0, 65535", 0x7009FFFF}, {"TRAP 0", 0x400F0000}, {"TRAP 65535", 0x400FFFFF}, {"TRAP 10", 0x400F000A},
		{"LDW R0, R0, 0", 0x80000000}, {"LDW R0, R0, -1", 0x800FFFFF}, {"LDW R0, R0, 524287", 0x8007FFFF}, {"LDW R0, R0, -524288", 0x80080000}, {"STB R0, R0, -10", 0xB00FFFF6}, {"STW R0, R0, 3", 0xA0000003}, {"LDB R0, R0, 524287", 0x9007FFFF},
		{"WORD 0", 0}, {"WORD 00000000", 0}, {"WORD F", 0xF}, {"WORD FFFFFFFF", 0xFFFFFFFF}, {"WORD 012", 0x12}, {"WORD 400C0000", 0x400C0000}, {"WORD 40000005", 0x40000005},
	} {
		reads(t, x.text, x.w)
	}
}

func TestParseBranches(t *testing.T) { // P6.3
	reads(t, "JMP AL, 0", 0xE7FFFFFF)
	reads(t, "JMP AL, 4", 0xE7000000)
	reads(t, "JMP AL, 33554432", 0xE77FFFFF)
	reads(t, "JMP AL, 4294967292", 0xE7FFFFFE)
	reads(t, "JMP AL, 4261412868", 0xE7800000)
	reads(t, lines("CALL EQ, 4/CALL EQ, 4/;/CALL EQ, 4"), 0xF1000000, 0xF1FFFFFF, 0xF1FFFFFE)
	reads(t, lines("TRAP 0/JMP AL, 33554436/JMP AL, 4261412876"), 0x400F0000, 0xE77FFFFF, 0xE7800000)
	refuses(t, lines("TRAP 0/JMP AL, 33554440"), 2)
	refuses(t, lines("TRAP 0/JMP AL, 4261412868"), 2)
	refuses(t, lines("TRAP 0/;/JMP AL, 6"), 3)
	refuses(t, lines("JMP AL, 4294967292/JMP AL, 4294967296"), 2)
}

func TestParseOfLongTexts(t *testing.T) { // P6.3
	for _, x := range []struct {
		text string
		line int
		e    api.Errno
	}{
		{strings.Repeat(" ", 65536), 0, api.OK},
		{strings.Repeat(" ", 65537), 0, api.ErrAsmLong},
		{strings.Repeat(" ", 65535) + "?", 1, api.ErrAsmLine},
		{strings.Repeat(" ", 65536) + "?", 0, api.ErrAsmLong},
		{strings.Repeat("?", 65536), 1, api.ErrAsmLine},
		{strings.Repeat("?", 65537), 0, api.ErrAsmLong},
		{strings.Repeat("\n", 65537), 0, api.ErrAsmLong},
		{strings.Repeat("TRAP 0\n", 9363), 0, api.ErrAsmLong},
		{"MOV R0, " + strings.Repeat("1", 65528), 1, api.ErrAsmLine},
		{"MOV R0, -" + strings.Repeat("9", 65527), 1, api.ErrAsmLine},
		{"JMP AL, " + strings.Repeat("4", 65528), 1, api.ErrAsmLine},
		{"MOV R" + strings.Repeat("0", 65531), 1, api.ErrAsmLine},
		{"WORD " + strings.Repeat("0", 65531), 1, api.ErrAsmLine},
		{"MOV " + strings.Repeat(",", 65532), 1, api.ErrAsmLine},
		{strings.Repeat("A", 65536), 1, api.ErrAsmLine},
		{strings.Repeat("é", 32768), 1, api.ErrAsmLine},
	} {
		if words, line, e := Parse(x.text); len(words) != 0 || line != x.line || e != x.e {
			t.Errorf("Parse of %d bytes, %.12q..: %d words, %d, %v; want %d, %v", len(x.text), x.text, len(words), line, e, x.line, x.e)
		}
	}
	if words, line, e := Parse(strings.Repeat("WORD 7\n", 9362)); len(words) != 9362 || line != 0 || e != api.OK || words[9361] != 7 {
		t.Errorf("9362 words: %d, %d, %v", len(words), line, e)
	}
}

// likely are words of which most are right, and numbers and addresses near their edges.
func likely(chance *rand.Rand) uint32 {
	r := allRows[chance.Intn(len(allRows))]
	edges := []uint32{0, 1, 0xF, 0x7FFF, 0x8000, 0xFFFF, 0x7FFFF, 0x80000, 0xFFFFF, 0x7FFFFF, 0x800000, 0xFFFFFF, math.MaxUint32}
	n := chance.Uint32()
	if chance.Intn(3) == 0 {
		n = n&0xFFF00000 | edges[chance.Intn(len(edges))] - uint32(chance.Intn(3))
	}
	return r.bits | n&r.mask
}

func wordsOfChance(chance *rand.Rand, many int) []uint32 {
	words := make([]uint32, many)
	for k := range words {
		words[k] = likely(chance)
		if chance.Intn(8) == 0 {
			words[k] = chance.Uint32()
		}
	}
	return words
}

// spoilt is a text with some bytes put in, taken out or set.
func spoilt(chance *rand.Rand, text string) string {
	const bytes = "R0123456789-, ,  \t\r\n;+ABCDEFHJLMNOPQSTUVWXabr\x00\xff\xc3\xa9\x0b"
	b := []byte(text)
	for range chance.Intn(4) {
		at, c := chance.Intn(len(b)+1), bytes[chance.Intn(len(bytes))]
		switch {
		case chance.Intn(3) == 0 || at == len(b):
			b = slices.Insert(b, at, c)
		case chance.Intn(2) == 0:
			b = slices.Delete(b, at, at+1)
		default:
			b[at] = c
		}
	}
	return string(b)
}

// agrees asks for what a text is read as by the chapter's rows.
func agrees(t *testing.T, all map[string][]reading, text string) api.Errno {
	t.Helper()
	words, line, e := Parse(text)
	wantWords, wantLine, wantError := plainParse(all, text)
	if !slices.Equal(words, wantWords) || line != wantLine || e != wantError {
		t.Fatalf("Parse(%q) = %08x, %d, %v; want %08x, %d, %v", text, words, line, e, wantWords, wantLine, wantError)
	}
	return e
}

func TestParseOfSpoiltTexts(t *testing.T) { // P6.3
	chance, all := rand.New(rand.NewSource(63)), readings()
	taken, refused := 0, 0
	for range 60000 {
		text := strings.TrimSuffix(writes(t, wordsOfChance(chance, 1+chance.Intn(3))), "\n")
		if agrees(t, all, spoilt(chance, text)) == api.OK {
			taken++
		} else {
			refused++
		}
	}
	if taken < 10000 || refused < 10000 {
		t.Errorf("%d texts were taken, %d refused: too few of one kind to tell", taken, refused)
	}
}

// Each name, and each that is like one, stands ahead of each row of up to three operands.
func TestParseOfNamesWithAnyOperands(t *testing.T) { // P6.3
	all := readings()
	heads := []string{"WORDS", "JMPV", "CALLU", "LDWV", "STBU", "TRAPU", "TRAPV", "MOVUV", "MOVHV", "MOVFU", "AL"}
	for name := range all {
		heads = append(heads, name)
	}
	for _, op := range operationNames {
		heads = append(heads, op+"U", op+"V", op+"UV")
	}
	slices.Sort(heads)
	operands := []string{"R0", "R15", "R16", "0", "-1", "65536", "AL"}
	lists := slices.Clone(operands)
	for at, added := 0, 0; added < 2; added++ {
		last := lists[at:]
		at = len(lists)
		for _, list := range last {
			for _, o := range operands {
				lists = append(lists, list+", "+o)
			}
		}
	}
	for _, name := range slices.Compact(heads) {
		for _, list := range lists {
			agrees(t, all, name+" "+list)
		}
	}
}

func TestParseOfTextTellsTheWords(t *testing.T) { // what follows
	chance := rand.New(rand.NewSource(64))
	for range 60 {
		words := wordsOfChance(chance, chance.Intn(2500))
		reads(t, writes(t, words), words...)
	}
	for _, r := range allRows { // each way of writing, with all of its operands' bits and with none
		reads(t, writes(t, []uint32{r.bits, r.bits | r.mask}), r.bits, r.bits|r.mask)
	}
	reads(t, writes(t, nil))
}

func TestParseOfTextOfEachUpperHalf(t *testing.T) { // what follows
	for high := uint32(0); high < 1<<16; high += 2048 {
		for _, low := range lowHalves {
			var words []uint32
			for k := range uint32(2048) {
				words = append(words, (high+k)<<16|low)
			}
			reads(t, writes(t, words), words...)
		}
	}
}

func TestTextOfWhatParseTellsIsReadAgain(t *testing.T) { // what follows
	chance := rand.New(rand.NewSource(65))
	tooLong := 0
	for range 300 {
		text := dressed(chance, writes(t, wordsOfChance(chance, chance.Intn(200))))
		words, _, e := Parse(text)
		if e != api.OK {
			t.Fatalf("Parse(%q): %v", text, e)
		}
		reads(t, writes(t, words), words...)
	}
	for _, text := range []string{strings.Repeat("WORD 7\n", 9000), strings.Repeat("WORD 400C0000\n", 4681), strings.Repeat("WORD 400C0\n", 5957)} {
		words, _, _ := Parse(text)
		again, e := Text(words)
		if e == api.ErrAsmLong {
			tooLong++
			continue
		}
		reads(t, again, words...)
	}
	if tooLong != 2 {
		t.Errorf("%d of the three are too long", tooLong)
	}
}

// dressed is a text with lines that say nothing, with blanks and with remarks: what it says is the same.
func dressed(chance *rand.Rand, text string) string {
	blank := func(least int) string {
		var s []byte
		for range least + chance.Intn(3) {
			s = append(s, " \t\r"[chance.Intn(3)])
		}
		return string(s)
	}
	var out strings.Builder
	for _, line := range strings.Split(strings.TrimSuffix(text, "\n"), "\n") {
		for range chance.Intn(3) {
			out.WriteString(blank(0) + []string{"", ";", "; MOV R0, 1", ";;\xff,"}[chance.Intn(4)] + "\n")
		}
		name, list, _ := strings.Cut(line, " ")
		out.WriteString(blank(0) + name + blank(1) + strings.ReplaceAll(list, ", ", blank(0)+","+blank(0)) + blank(0))
		out.WriteString([]string{"", ";", "; x", ";WORD 4"}[chance.Intn(4)] + "\n")
	}
	return out.String()
}

func TestBlanksAndLinesThatSayNothing(t *testing.T) { // what follows
	chance := rand.New(rand.NewSource(66))
	for range 300 {
		words := wordsOfChance(chance, 1+chance.Intn(200))
		text := dressed(chance, writes(t, words))
		reads(t, text, words...)
		reads(t, strings.TrimSuffix(text, "\n"), words...)
		refuses(t, text+"?", 1+strings.Count(text, "\n"))
	}
}

func TestAnswersAreNewAndTheSameEachTime(t *testing.T) { // R3, R4
	const text = "MOV R0, 5\nJMP AL, 0\n"
	first, _, _ := Parse(text)
	first = append(first[:1], 7)
	first[0] = 9
	if _, _, e := Parse("?"); e != api.ErrAsmLine {
		t.Errorf("Parse: %v", e)
	}
	reads(t, text, 0x40000005, 0xE7FFFFFE)
	second, _, _ := Parse(text)
	third, _, _ := Parse(text)
	second[0] = 1
	if third[0] != 0x40000005 || first[0] != 9 || first[1] != 7 {
		t.Errorf("the answers share memory: %08x, %08x", first, third)
	}
	if a, b := Show(0xE7FFFFFF, 8), Show(0xE7FFFFFF, 8); a != b || a != "JMP AL, 8" {
		t.Errorf("Show: %q, then %q", a, b)
	}
}
