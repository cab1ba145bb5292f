package scan

import (
	"math/big"
	"math/rand"
	"regexp"
	"slices"
	"strings"

	"carrel/api"
)

// This file tells the chapter plainly, by patterns and exact whole numbers, for All to be held against.

var (
	plainBlank   = regexp.MustCompile(`^[ \t\n\r]+`)
	plainWord    = regexp.MustCompile(`^[A-Za-z][A-Za-z0-9]*`)
	plainNumber  = regexp.MustCompile(`^[0-9][A-Za-z0-9]*`)
	plainDecimal = regexp.MustCompile(`^[0-9]+$`)
	plainSixteen = regexp.MustCompile(`^[0-9][0-9A-F]*[HX]$`)
	plainQuoted  = regexp.MustCompile(`^"[ !#-~]{0,200}"`)
	plainSign    = regexp.MustCompile(`^(\.\.|:=|<=|>=|\+|-|\*|/|~|&|\.|,|;|\||\(|\)|\[|\]|\{|\}|:|\^|=|#|<|>)`)
	plainKeys    = strings.Fields(`ARRAY BEGIN BY CONST DIV DO ELSE ELSIF END FALSE FOR IF IMPORT IN IS MOD MODULE NIL OF OR
		POINTER PROCEDURE RECORD REPEAT RETURN THEN TO TRUE TYPE UNTIL VAR WHILE`)
)

// plainRemark is what stands behind a remark whose beginning is passed already.
func plainRemark(s string) (string, bool) {
	for s != "" {
		ok := true
		switch {
		case strings.HasPrefix(s, "*)"):
			return s[2:], true
		case strings.HasPrefix(s, "(*"):
			if s, ok = plainRemark(s[2:]); !ok {
				return "", false
			}
		default:
			s = s[1:]
		}
	}
	return "", false
}

// plainInt is the number that a word that begins with a digit tells.
func plainInt(word string) (api.Token, bool) {
	base, most, kind, digits := 16, int64(0), api.TokInt, word[:len(word)-1]
	switch {
	case plainDecimal.MatchString(word):
		base, most, digits = 10, 2147483647, word
	case plainSixteen.MatchString(word) && strings.HasSuffix(word, "H"):
		most = 0xFFFFFFFF
	case plainSixteen.MatchString(word):
		kind, most = api.TokChar, 0xFF
	default:
		return api.Token{}, false
	}
	n, _ := new(big.Int).SetString(digits, base)
	if n.Cmp(big.NewInt(most)) > 0 {
		return api.Token{}, false
	}
	value := n.Int64()
	if value > 2147483647 {
		value -= 1 << 32
	}
	return api.Token{Kind: kind, N: value}, true
}

// plainToken is the token at a text's beginning, and what stands behind it.
func plainToken(s string) (api.Token, string, api.Errno) {
	if word := plainWord.FindString(s); word != "" {
		switch {
		case slices.Contains(plainKeys, word):
			return api.Token{Kind: api.TokKey, Text: word}, s[len(word):], api.OK
		case len(word) > 20:
			return api.Token{}, "", api.ErrScanName
		}
		return api.Token{Kind: api.TokName, Text: word}, s[len(word):], api.OK
	}
	if word := plainNumber.FindString(s); word != "" {
		token, ok := plainInt(word)
		if !ok {
			return api.Token{}, "", api.ErrScanInt
		}
		return token, s[len(word):], api.OK
	}
	if s[0] == '"' {
		text := plainQuoted.FindString(s)
		if text == "" {
			return api.Token{}, "", api.ErrScanStr
		}
		return api.Token{Kind: api.TokStr, Text: strings.Trim(text, `"`)}, s[len(text):], api.OK
	}
	if sign := plainSign.FindString(s); sign != "" {
		return api.Token{Kind: api.TokSign, Text: sign}, s[len(sign):], api.OK
	}
	return api.Token{}, "", api.ErrScanByte
}

func plainAll(s string) ([]api.Token, int, api.Errno) {
	if len(s) > 16384 {
		return nil, 0, api.ErrScanLong
	}
	var tokens []api.Token
	for rest := s; rest != ""; {
		at, ok := len(s)-len(rest), true
		if blank := plainBlank.FindString(rest); blank != "" {
			rest = rest[len(blank):]
			continue
		}
		if strings.HasPrefix(rest, "(*") {
			if rest, ok = plainRemark(rest[2:]); !ok {
				return nil, at, api.ErrScanRem
			}
			continue
		}
		token, behind, e := plainToken(rest)
		if e != api.OK {
			return nil, at, e
		}
		token.At = at
		tokens, rest = append(tokens, token), behind
	}
	return append(tokens, api.Token{Kind: api.TokEnd, At: len(s)}), 0, api.OK
}

// pieces are what sources of chance are put together of; most of them are right by themselves.
var pieces = []string{
	"a", "x1", "End", "aVeryLongNameOfTwenty", "exactlyTwentyLetters", "CASE", "H", "X", "A1H",
	"END", "MODULE", "IF", "OF", "WHILE",
	"0", "7", "007", "2147483647", "2147483648", "0FFH", "0FFFFFFFFH", "080000000H", "100000000H", "1H", "0X", "41X", "0FFX", "100X", "0FF", "12x", "1h",
	`""`, `"a b"`, `"(*"`, `"*)"`, `"'~!"`, `"`, "\"\t\"",
	"+", "-", "*", "/", "~", "&", ".", "..", ",", ";", "|", "(", ")", "[", "]", "{", "}", ":=", ":", "^", "=", "#", "<", "<=", ">", ">=",
	"(*", "*)", "(**)", "(* a *)", "(*(**)*)", "(*\")*)", "(*\xff\x00é*)",
	"!", "_", "é", "\xff", "\x00", "\v", "\\",
}

var gaps = []string{" ", "\t", "\n", "\r", "\r\n", "  ", "(**)", "(* (* \" *) *)"}

// sourceOfChance has some of the pieces that may be taken, with gaps between some of them.
func sourceOfChance(chance *rand.Rand, taken []string) string {
	var b strings.Builder
	for range chance.Intn(20) {
		b.WriteString(taken[chance.Intn(len(taken))])
		if chance.Intn(3) > 0 {
			b.WriteString(gaps[chance.Intn(len(gaps))])
		}
	}
	return b.String()
}

// rightPieces are those that are tokens, or blanks, by themselves.
func rightPieces() []string {
	var right []string
	for _, piece := range pieces {
		if _, _, e := plainAll(piece); e == api.OK {
			right = append(right, piece)
		}
	}
	return right
}
