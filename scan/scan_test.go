package scan

import (
	"fmt"
	"math/rand"
	"slices"
	"strings"
	"testing"
	"unsafe"

	"carrel/api"
)

func name(at int, text string) api.Token {
	return api.Token{Kind: api.TokName, Text: text, At: at}
}

func key(at int, text string) api.Token { return api.Token{Kind: api.TokKey, Text: text, At: at} }

func integer(at int, n int64) api.Token { return api.Token{Kind: api.TokInt, N: n, At: at} }

func char(at int, n int64) api.Token { return api.Token{Kind: api.TokChar, N: n, At: at} }

func str(at int, text string) api.Token { return api.Token{Kind: api.TokStr, Text: text, At: at} }

func mark(at int, text string) api.Token {
	return api.Token{Kind: api.TokSign, Text: text, At: at}
}

func end(at int) api.Token { return api.Token{Kind: api.TokEnd, At: at} }

// reads asks for a source's tokens; the one at its end is added.
func reads(t *testing.T, s string, want ...api.Token) {
	t.Helper()
	want = append(slices.Clip(want), end(len(s)))
	if tokens, at, e := All(s); !slices.Equal(tokens, want) || at != 0 || e != api.OK {
		t.Errorf("All(%.60q) = %.300s, %d, %v; want %.300s", s, fmt.Sprint(tokens), at, e, fmt.Sprint(want))
	}
}

// refuses asks for a source's first fault.
func refuses(t *testing.T, s string, want int, fault api.Errno) {
	t.Helper()
	if tokens, at, e := All(s); len(tokens) != 0 || at != want || e != fault {
		t.Errorf("All(%.60q) = %.300s, %d, %v; want %d, %v", s, fmt.Sprint(tokens), at, e, want, fault)
	}
}

// agrees holds All against the chapter written plainly.
func agrees(t *testing.T, s string) api.Errno {
	t.Helper()
	tokens, at, e := All(s)
	want, where, fault := plainAll(s)
	if !slices.Equal(tokens, want) || at != where || e != fault {
		t.Fatalf("All(%q) = %v, %d, %v; want %v, %d, %v", s, tokens, at, e, want, where, fault)
	}
	return e
}

func TestTheChaptersExamples(t *testing.T) { // P8.1
	reads(t, "x := 0FFH; (* a (* b *) *)", name(0, "x"), mark(2, ":="), integer(5, 255), mark(9, ";"))
	reads(t, "a<=b..c", name(0, "a"), mark(1, "<="), name(3, "b"), mark(4, ".."), name(6, "c"))
	reads(t, `41X "a b"`, char(0, 65), str(4, "a b"))
	reads(t, "0FFFFFFFFH", integer(0, -1))
	reads(t, "080000000H", integer(0, -2147483648))
	reads(t, "2147483647", integer(0, 2147483647))
	reads(t, "007", integer(0, 7))
	reads(t, "1..2", integer(0, 1), mark(1, ".."), integer(3, 2))
	for _, s := range []string{"2147483648", "100000000H", "100X", "12x", "0FF", "1h", "0a", "1G"} {
		refuses(t, s, 0, api.ErrScanInt)
	}
	refuses(t, "(* (* *)", 0, api.ErrScanRem)
	refuses(t, "a (*", 2, api.ErrScanRem)
	refuses(t, `"a`, 0, api.ErrScanStr)
	refuses(t, "a_b", 1, api.ErrScanByte)
	refuses(t, "a ! b", 2, api.ErrScanByte)
	refuses(t, strings.Repeat("q", 21), 0, api.ErrScanName)
	reads(t, "")
	reads(t, "(**)")
	refuses(t, "(*)", 0, api.ErrScanRem)
}

func TestIsNameExamples(t *testing.T) { // P8.2
	for s, want := range map[string]bool{"a1": true, "END": false, "End": true, "": false, "1a": false, "a b": false} {
		if IsName(s) != want {
			t.Errorf("IsName(%q) is %v", s, !want)
		}
	}
}

func TestAWholeModule(t *testing.T) { // P8.1
	reads(t, "MODULE M; (* of (* one *) *)\n\tVAR c*: ARRAY 10X OF CHAR;\r\nBEGIN c[0AH] := \"(*\"; ASSERT(~(c # NIL)) END M.",
		key(0, "MODULE"), name(7, "M"), mark(8, ";"),
		key(30, "VAR"), name(34, "c"), mark(35, "*"), mark(36, ":"), key(38, "ARRAY"), char(44, 16), key(48, "OF"), name(51, "CHAR"), mark(55, ";"),
		key(58, "BEGIN"), name(64, "c"), mark(65, "["), integer(66, 10), mark(69, "]"), mark(71, ":="), str(74, "(*"), mark(78, ";"),
		name(80, "ASSERT"), mark(86, "("), mark(87, "~"), mark(88, "("), name(89, "c"), mark(91, "#"), key(93, "NIL"), mark(96, ")"), mark(97, ")"),
		key(99, "END"), name(103, "M"), mark(104, "."))
}

const (
	allLetters = "abcdefghijklmnopqrstuvwxyzABCDEFGHIJKLMNOPQRSTUVWXYZ"
	allDigits  = "0123456789"
	allBlanks  = " \t\n\r"
	allSigns   = "+-*/~&.,;|()[]{}:^=#<>"
)

func TestEachByteAlone(t *testing.T) { // P8.1
	for c := range 256 {
		s := string([]byte{byte(c)})
		switch {
		case strings.Contains(allLetters, s):
			reads(t, s, name(0, s))
		case strings.Contains(allDigits, s):
			reads(t, s, integer(0, int64(c-'0')))
		case strings.Contains(allBlanks, s):
			reads(t, s)
		case strings.Contains(allSigns, s):
			reads(t, s, mark(0, s))
		case s == `"`:
			refuses(t, s, 0, api.ErrScanStr)
		default:
			refuses(t, s, 0, api.ErrScanByte)
			refuses(t, "a"+s+"b", 1, api.ErrScanByte)
			refuses(t, "7 "+s, 2, api.ErrScanByte)
		}
	}
}

// Letters, digits and blanks of other scripts are none here, whatever their runes are like.
func TestRunesBeyondOneByte(t *testing.T) { // P8.1, P8.2
	for _, s := range []string{"é", "ß", "\u0391", "\u212a", "\uff21", "\u0663", "\uff11", "\u00a0", "\u0085", "\u2028", "\u3000", "\ufeff", "\ufffd", "\U0001d400", "\xc0\xaf", "\xed\xa0\x80", "\xe2)", "\xff"} {
		refuses(t, s, 0, api.ErrScanByte)
		refuses(t, "a"+s, 1, api.ErrScanByte)
		refuses(t, "12"+s+"3", 2, api.ErrScanByte)
		refuses(t, `x "a`+s+`"`, 2, api.ErrScanStr)
		reads(t, "(*"+s+"*)b", name(len(s)+4, "b"))
		if IsName(s) || IsName("a"+s) {
			t.Errorf("IsName(a%q)", s)
		}
	}
	reads(t, "(*\xe2*)c", name(5, "c"))
	reads(t, "(*\xf0\x9f(*\xc3*)*)c", name(11, "c"))
}

func TestKeywords(t *testing.T) { // P8.1, P8.2
	keys := strings.Fields("ARRAY BEGIN BY CONST DIV DO ELSE ELSIF END FALSE FOR IF IMPORT IN IS MOD MODULE NIL OF OR POINTER PROCEDURE RECORD REPEAT RETURN THEN TO TRUE TYPE UNTIL VAR WHILE")
	for _, s := range keys {
		reads(t, s, key(0, s))
		reads(t, "  "+s+";", key(2, s), mark(2+len(s), ";"))
		if IsName(s) {
			t.Errorf("IsName(%q)", s)
		}
		for _, other := range []string{strings.ToLower(s), s[:1] + strings.ToLower(s[1:]), s + "x", s + "1", "x" + s, s[:len(s)-1]} {
			if slices.Contains(keys, other) {
				continue
			}
			reads(t, other, name(0, other))
			if !IsName(other) {
				t.Errorf("not IsName(%q)", other)
			}
		}
	}
	for _, s := range []string{"CASE", "REAL", "INTEGER", "ABS", "NEW", "SYSTEM", "XOR", "EXIT", "LOOP", "WITH"} {
		reads(t, s, name(0, s))
	}
}

func TestLengthsOfNames(t *testing.T) { // P8.1, P8.2
	for _, n := range []int{1, 2, 19, 20} {
		s := strings.Repeat("z", n-1) + "Z"
		reads(t, " "+s+"+", name(1, s), mark(n+1, "+"))
		digits := "A" + strings.Repeat("9", n-1)
		reads(t, digits, name(0, digits))
		if !IsName(s) || !IsName(digits) {
			t.Errorf("not IsName of %d bytes", n)
		}
	}
	for _, n := range []int{21, 22, 40, 256, 16384} {
		s, digits := strings.Repeat("z", n), "A"+strings.Repeat("9", n-1)
		refuses(t, s, 0, api.ErrScanName)
		refuses(t, digits, 0, api.ErrScanName)
		if IsName(s) || IsName(digits) {
			t.Errorf("IsName of %d bytes", n)
		}
	}
	refuses(t, "END"+strings.Repeat("END", 6)+"END", 0, api.ErrScanName)
	if IsName(strings.Repeat("z", 16385)) {
		t.Error("IsName of more than a source")
	}
}

func TestIsNameOfWholeTexts(t *testing.T) { // P8.2
	for _, s := range []string{"a ", " a", "a\n", "a(**)", "(**)a", "a.b", "a_b", "_", "a-", "1", "0FFH", `"a"`, "a\x00", "é", "\xff"} {
		if IsName(s) {
			t.Errorf("IsName(%q)", s)
		}
	}
}

func TestDecimals(t *testing.T) { // P8.1
	nought := strings.Repeat("0", 1000)
	for s, n := range map[string]int64{"0": 0, "1": 1, "9": 9, "00": 0, "10": 10, "1234567890": 1234567890, "2147483646": 2147483646,
		"02147483647": 2147483647, nought: 0, nought + "2147483647": 2147483647} {
		reads(t, s, integer(0, n))
		reads(t, "-"+s+")", mark(0, "-"), integer(1, n), mark(len(s)+1, ")"))
	}
	for _, s := range []string{"2147483648", "2147483650", "4294967295", "4294967296", "9223372036854775807", "9223372036854775808", "18446744073709551616",
		"18446744073709551617", nought + "2147483648", strings.Repeat("9", 16384), "1" + nought} {
		refuses(t, s, 0, api.ErrScanInt)
	}
}

func TestBaseSixteen(t *testing.T) { // P8.1
	nought := strings.Repeat("0", 1000)
	for s, n := range map[string]int64{"0H": 0, "9H": 9, "10H": 16, "0AH": 10, "0FH": 15, "1AH": 26, "9ABCDEFH": 0x9ABCDEF, "1E5H": 0x1E5, "7FFFFFFFH": 2147483647,
		"80000000H": -2147483648, "80000001H": -2147483647, "0FFFFFFFEH": -2, "0FFFFFFFFH": -1, "00FFFFFFFFH": -1, nought + "FFFFFFFFH": -1} {
		reads(t, s, integer(0, n))
	}
	for s, n := range map[string]int64{"0X": 0, "9X": 9, "0AX": 10, "0DX": 13, "41X": 65, "7FX": 127, "80X": 128, "0FFX": 255, "00FFX": 255, nought + "FFX": 255} {
		reads(t, s, char(0, n))
	}
	for _, s := range []string{"100000000H", "0FFFFFFFF0H", "0100000000H", "10000000000000000H", "0FFFFFFFFFFFFFFFFH", "1" + nought + "H",
		"100X", "0100X", "0FFFX", "100000000X", "10000000000000000X", "1" + nought + "X"} {
		refuses(t, s, 0, api.ErrScanInt)
	}
}

func TestWordsOfADigitThatAreNone(t *testing.T) { // P8.1
	for _, s := range []string{"0A", "0F", "9ABC", "0a", "0aH", "0fX", "0Fh", "1h", "1x", "1HH", "1XX", "1HX", "1XH", "1H0", "1X0", "9H9", "0GH", "0GX", "1G",
		"0ZH", "12x", "1END", "1e5", "0x10", "0X10", "12h3", "0fFH", "5L", "2147483647a"} {
		refuses(t, s, 0, api.ErrScanInt)
		refuses(t, "a:="+s+" !", 3, api.ErrScanInt)
	}
	refuses(t, "1.5x", 2, api.ErrScanInt)
	refuses(t, "1..0F", 3, api.ErrScanInt)
}

// In words of one, two and three bytes that begin with a digit each letter and each digit is tried at each place.
func TestShortWordsOfADigit(t *testing.T) { // P8.1
	for _, first := range allDigits {
		for _, second := range allLetters + allDigits {
			agrees(t, string(first)+string(second))
			for _, third := range allLetters + allDigits {
				agrees(t, string(first)+string(second)+string(third))
			}
		}
	}
}

func TestStrings(t *testing.T) { // P8.1
	for c := range 256 {
		inner := string([]byte{'(', byte(c), '*'})
		switch {
		case c == '"':
			refuses(t, `;"`+inner+`"`, 5, api.ErrScanStr) // which is a string, a star, and one without an end
		case c >= 0x20 && c <= 0x7E:
			reads(t, `;"`+inner+`";`, mark(0, ";"), str(1, inner), mark(6, ";"))
		default:
			refuses(t, `;"`+inner+`";`, 1, api.ErrScanStr)
		}
	}
	reads(t, `"""a"`, str(0, ""), str(2, "a"))
	reads(t, `"END""0FH"x`, str(0, "END"), str(5, "0FH"), name(10, "x"))
	refuses(t, `"a" "b`, 4, api.ErrScanStr)
	refuses(t, `'a'`, 0, api.ErrScanByte)
}

func TestLengthsOfStrings(t *testing.T) { // P8.1
	for _, n := range []int{0, 1, 199, 200} {
		s := strings.Repeat("~", n)
		reads(t, ` "`+s+`"x`, str(1, s), name(n+3, "x"))
		refuses(t, ` "`+s, 1, api.ErrScanStr)
		refuses(t, ` "`+s+"\n\"", 1, api.ErrScanStr)
	}
	for _, n := range []int{201, 202, 1000, 16382} {
		s := strings.Repeat(" ", n)
		refuses(t, `"`+s+`"`, 0, api.ErrScanStr)
		refuses(t, `"`+s, 0, api.ErrScanStr)
	}
}

func TestSignsBesideOneAnother(t *testing.T) { // P8.1
	for _, first := range allSigns {
		for _, second := range allSigns {
			switch s := string(first) + string(second); s {
			case "..", ":=", "<=", ">=":
				reads(t, s, mark(0, s))
			case "(*":
				refuses(t, s, 0, api.ErrScanRem)
			default:
				reads(t, s, mark(0, s[:1]), mark(1, s[1:]))
			}
		}
	}
	reads(t, "...", mark(0, ".."), mark(2, "."))
	reads(t, "....", mark(0, ".."), mark(2, ".."))
	reads(t, "::==", mark(0, ":"), mark(1, ":="), mark(3, "="))
	reads(t, ": =", mark(0, ":"), mark(2, "="))
	reads(t, "<>=<==>=", mark(0, "<"), mark(1, ">="), mark(3, "<="), mark(5, "="), mark(6, ">="))
	reads(t, ".(**).", mark(0, "."), mark(5, "."))
	reads(t, "*)", mark(0, "*"), mark(1, ")"))
	reads(t, "( *)", mark(0, "("), mark(2, "*"), mark(3, ")"))
	refuses(t, `\|`, 0, api.ErrScanByte)
}

func TestRemarks(t *testing.T) { // P8.1
	for _, s := range []string{"(**)", "(***)", "(****)", "(* *)", "(*(**)*)", "(*(*(**)*)*)", "(*)*)", "(*()*)", "(*(*)*)*)", "(**)(**)", "(*(**)(**)*)", "(* ( * ) *)",
		"(*\"*)", "(*!_\x00\xff*)", "(*2147483648*)", "(*((**)*)", "(***) (* **)"} {
		reads(t, s)
		reads(t, "a"+s+"b", name(0, "a"), name(1+len(s), "b"))
		reads(t, "1"+s+"2", integer(0, 1), integer(1+len(s), 2))
	}
	for _, s := range []string{"(*", "(*)", "(*)(*)", "(* (* *)", "(*(**)", "(*(*)*)", "(*(*(**)*)", "(* *", "(**", "(*( *)(*"} {
		at := 0
		if s == "(*( *)(*" {
			at = 6
		}
		refuses(t, s, at, api.ErrScanRem)
		refuses(t, "ab "+s+" ! ", at+3, api.ErrScanRem)
		refuses(t, "(* *)"+s, at+5, api.ErrScanRem)
	}
	reads(t, "(**)*)", mark(4, "*"), mark(5, ")"))
	reads(t, `"(*" a "*)"`, str(0, "(*"), name(5, "a"), str(7, "*)"))
	reads(t, `(* " *) " *)"`, str(8, " *)"))
}

func TestDeepRemarks(t *testing.T) { // P8.1, R1
	reads(t, strings.Repeat("(*", 4096)+strings.Repeat("*)", 4096))
	refuses(t, "("+strings.Repeat("(*", 4096)+strings.Repeat("*)", 4095), 1, api.ErrScanRem)
	refuses(t, strings.Repeat("(*", 8192), 0, api.ErrScanRem)
	reads(t, strings.Repeat("(**)", 4096))
	refuses(t, strings.Repeat("(**)", 4095)+"(*", 4*4095, api.ErrScanRem)
}

// Each row of so many bytes of an alphabet in which remarks begin, end and overlap.
func TestRowsOfRemarks(t *testing.T) { // P8.1
	rows := []string{""}
	for range 8 {
		var longer []string
		for _, row := range rows {
			for _, c := range "(*)a" {
				agrees(t, row+string(c))
				longer = append(longer, row+string(c))
			}
		}
		rows = longer
	}
}

func TestEachTwoBytes(t *testing.T) { // P8.1
	for first := range 256 {
		for second := range 256 {
			agrees(t, string([]byte{byte(first), byte(second)}))
		}
	}
}

func TestLengthsOfSources(t *testing.T) { // P8.1
	reads(t, strings.Repeat(" ", 16384))
	reads(t, strings.Repeat("\n", 16383)+"a", name(16383, "a"))
	reads(t, `"`+strings.Repeat("x", 200)+`"`+strings.Repeat("\r", 16182), str(0, strings.Repeat("x", 200)))
	refuses(t, strings.Repeat(" ", 16383)+"!", 16383, api.ErrScanByte)
	tokens, _, e := All(strings.Repeat(";", 16384))
	if len(tokens) != 16385 || e != api.OK || tokens[16383] != mark(16383, ";") || tokens[16384] != end(16384) {
		t.Errorf("All of 16384 signs: %d tokens, %v", len(tokens), e)
	}
	for _, s := range []string{" ", "!", ";", "a", "9", `"`, "(*", "\xff"} {
		refuses(t, strings.Repeat(s, 16384/len(s))+" ", 0, api.ErrScanLong)
		refuses(t, strings.Repeat(s, 100000), 0, api.ErrScanLong)
	}
}

// Whatever stands behind the first fault, that one is told.
func TestTheFirstFaultIsTold(t *testing.T) { // P8.1
	long := strings.Repeat("a", 21)
	for _, x := range []struct {
		s     string
		at    int
		fault api.Errno
	}{
		{"! 1h \" (* " + long, 0, api.ErrScanByte}, {"x 1h ! \" (* " + long, 2, api.ErrScanInt}, {"x \" ", 2, api.ErrScanStr},
		{"; (* ! 1h \" " + long, 2, api.ErrScanRem}, {long + " ! 1h \" (*", 0, api.ErrScanName}, {"\"\x01\" !", 0, api.ErrScanStr},
		{"1h(*", 0, api.ErrScanInt}, {"1!", 1, api.ErrScanByte}, {"a\"", 1, api.ErrScanStr}, {"a(*", 1, api.ErrScanRem}, {"(* *) 0F", 6, api.ErrScanInt},
	} {
		refuses(t, x.s, x.at, x.fault)
	}
}

func TestSourcesOfChance(t *testing.T) { // P8.1
	chance := rand.New(rand.NewSource(8))
	seen := map[api.Errno]int{}
	right := rightPieces()
	for range 30000 {
		seen[agrees(t, sourceOfChance(chance, pieces))]++
		seen[agrees(t, sourceOfChance(chance, right))]++
	}
	for _, e := range []api.Errno{api.OK, api.ErrScanByte, api.ErrScanInt, api.ErrScanStr, api.ErrScanName, api.ErrScanRem} {
		if seen[e] < 100 {
			t.Errorf("%d sources of %v: chance does not try enough", seen[e], e)
		}
	}
}

func TestBytesOfChance(t *testing.T) { // P8.1, R1
	chance := rand.New(rand.NewSource(80))
	for range 20000 {
		b := make([]byte, chance.Intn(30))
		chance.Read(b)
		if chance.Intn(2) > 0 {
			for k := range b {
				b[k] = "aZ09AFHX\"(*).:=<> \n"[int(b[k])%19]
			}
		}
		agrees(t, string(b))
	}
}

func TestIsNameIsATokenAlone(t *testing.T) { // P8.2
	chance := rand.New(rand.NewSource(81))
	names := 0
	for k := range 20000 {
		s := sourceOfChance(chance, pieces)
		if k%2 == 0 {
			s = pieces[chance.Intn(len(pieces))] + pieces[chance.Intn(len(pieces))]
		}
		tokens, _, _ := All(s)
		want := len(tokens) == 2 && tokens[0] == name(0, s)
		if IsName(s) != want {
			t.Fatalf("IsName(%q) is %v", s, !want)
		}
		if want {
			names++
		}
	}
	if names < 100 {
		t.Errorf("only %d names", names)
	}
}

// written is a token as a source, by the chapter's words.
func written(token api.Token) string {
	switch {
	case token.Kind == api.TokInt && token.N >= 0:
		return fmt.Sprint(token.N)
	case token.Kind == api.TokInt:
		return fmt.Sprintf("0%XH", uint32(token.N))
	case token.Kind == api.TokChar:
		return fmt.Sprintf("0%XX", token.N)
	case token.Kind == api.TokStr:
		return `"` + token.Text + `"`
	}
	return token.Text
}

// unplaced are tokens without their places.
func unplaced(tokens []api.Token) []api.Token {
	bare := slices.Clone(tokens)
	for k := range bare {
		bare[k].At = 0
	}
	return bare
}

func TestTokensWrittenAgainAreTheSame(t *testing.T) { // what follows
	chance := rand.New(rand.NewSource(82))
	right := rightPieces()
	for range 10000 {
		s := sourceOfChance(chance, right)
		tokens, _, e := All(s)
		if e != api.OK {
			continue
		}
		var texts []string
		for _, token := range tokens {
			texts = append(texts, written(token))
		}
		for _, blank := range []string{" ", "\t", "\n", "\r"} {
			again := strings.Join(texts, blank)
			if other, _, e := All(again); e != api.OK || !slices.Equal(unplaced(other), unplaced(tokens)) {
				t.Fatalf("%q, written again as %q: %v, %v", s, again, other, e)
			}
		}
	}
}

func TestASourceIsReadByItself(t *testing.T) { // what follows
	chance := rand.New(rand.NewSource(83))
	for range 5000 {
		s := sourceOfChance(chance, pieces)
		tokens, fault, e := All(s)
		if e != api.OK {
			if _, _, e := All(s[:fault]); e != api.OK {
				t.Fatalf("%q has a fault at %d, and one ahead: %v", s, fault, e)
			}
			continue
		}
		for k, token := range tokens {
			reads(t, s[:token.At], tokens[:k]...)
			if behind, _, e := All(s[:token.At] + "!"); len(behind) != 0 || e != api.ErrScanByte {
				t.Fatalf("%q up to %d and a fault: %v", s, token.At, e)
			}
		}
	}
}

func TestARemarkIsABlank(t *testing.T) { // what follows
	chance := rand.New(rand.NewSource(84))
	remarks := []string{"(**)", "(* *)", "(*(*)*)*)", "(*(* END *)\"*)", "(*\n\xff\x00*)"}
	right := rightPieces()
	for range 10000 {
		s := sourceOfChance(chance, right)
		tokens, _, e := All(s)
		if e != api.OK {
			continue
		}
		dressed, from := "", 0
		for _, token := range tokens {
			dressed += s[from:token.At]
			if chance.Intn(2) > 0 {
				dressed += remarks[chance.Intn(len(remarks))]
			}
			from = token.At
		}
		if other, _, e := All(dressed); e != api.OK || !slices.Equal(unplaced(other), unplaced(tokens)) {
			t.Fatalf("%q, with remarks %q: %v, %v", s, dressed, other, e)
		}
		bare := strings.ReplaceAll(dressed, "(**)", " ")
		if other, _, e := All(bare); e != api.OK || !slices.Equal(unplaced(other), unplaced(tokens)) {
			t.Fatalf("%q, with blanks for remarks %q: %v, %v", s, bare, other, e)
		}
	}
}

func TestAnswersAreNewAndTheSameEachTime(t *testing.T) { // R3, R4
	s := `MODULE x; "abc" := 0FFH`
	first, _, _ := All(s)
	want := slices.Clone(first)
	whole := first[:cap(first)]
	for k := range whole {
		whole[k] = name(k, "spoilt")
	}
	All("a 1h")
	if again, at, e := All(s); !slices.Equal(again, want) || at != 0 || e != api.OK {
		t.Errorf("All(%q) = %v, %d, %v the second time", s, again, at, e)
	}
}

func TestTextsDoNotKeepTheSource(t *testing.T) { // R3
	s := strings.Clone(`MODULE x; "abc" := a1`)
	begin := uintptr(unsafe.Pointer(unsafe.StringData(s)))
	tokens, _, _ := All(s)
	for _, token := range tokens {
		if token.Text == "" {
			continue
		}
		if p := uintptr(unsafe.Pointer(unsafe.StringData(token.Text))); p >= begin && p < begin+uintptr(len(s)) {
			t.Errorf("the text %q is a piece of the source", token.Text)
		}
	}
}
