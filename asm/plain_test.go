package asm

import (
	"fmt"
	"math/big"
	"regexp"
	"strings"

	"carrel/api"
)

// row is one of the chapter's ways of writing: a word's bits, and the text, in which Ra, Rb, Rc, n (16 bits), m (20 bits, with a sign), k (the condition) and t (the address at which a branch goes on) stand for operands.
type row struct {
	bits uint32
	text string
	mask uint32 // the bits of its operands
}

var operationNames = []string{"MOV", "LSL", "ASR", "ROR", "AND", "ANN", "IOR", "XOR", "ADD", "SUB", "MUL", "DIV"}

var conditionNames = []string{"MI", "EQ", "CS", "VS", "LS", "LT", "LE", "AL", "PL", "NE", "CC", "VC", "HI", "GE", "GT", "NV"}

// rows are the chapter's table, with DOC.md's bits: nothing of it is asked of the package, nor of cpu.
func rows() []row {
	out := []row{
		written(0x00000000, "MOV Ra, Rc"), written(0x20000000, "MOVH Ra"), written(0x30000000, "MOVF Ra"),
		written(0x40000000, "MOV Ra, n"), written(0x60000000, "MOVU Ra, n"), written(0x50000000, "MOVV Ra, n"),
		written(0x400F0000, "TRAP n"),
		written(0x80000000, "LDW Ra, Rb, m"), written(0x90000000, "LDB Ra, Rb, m"),
		written(0xA0000000, "STW Ra, Rb, m"), written(0xB0000000, "STB Ra, Rb, m"),
		written(0xC0000000, "JMP k, Rc"), written(0xD0000000, "CALL k, Rc"),
		written(0xE0000000, "JMP k, t"), written(0xF0000000, "CALL k, t"),
	}
	for op := 1; op <= 11; op++ {
		name, bits := operationNames[op], uint32(op)<<16
		out = append(out,
			written(bits, name+" Ra, Rb, Rc"),
			written(0x40000000|bits, name+" Ra, Rb, n"),
			written(0x50000000|bits, name+"V Ra, Rb, n"))
		if op == 8 || op == 9 || op == 10 {
			out = append(out,
				written(0x20000000|bits, name+"U Ra, Rb, Rc"),
				written(0x60000000|bits, name+"U Ra, Rb, n"),
				written(0x70000000|bits, name+"UV Ra, Rb, n"))
		}
	}
	return out
}

// allRows are made once, as tests of chance ask for them often.
var allRows = rows()

func written(bits uint32, text string) row {
	r := row{bits: bits, text: text}
	for _, o := range r.operands() {
		r.mask |= (1<<slots[o].bits - 1) << slots[o].at
	}
	return r
}

// slot is where an operand stands in a word.
type slot struct {
	at, bits int
}

var slots = map[string]slot{
	"Ra": {24, 4}, "Rb": {20, 4}, "Rc": {0, 4}, "n": {0, 16}, "m": {0, 20}, "k": {24, 4}, "t": {0, 24},
}

func (r row) name() string { return strings.Fields(r.text)[0] }

func (r row) operands() []string {
	return strings.Split(strings.TrimPrefix(r.text, r.name()+" "), ", ")
}

func signed(n uint32, bits int) int64 {
	if n >= 1<<(bits-1) {
		return int64(n) - 1<<bits
	}
	return int64(n)
}

func plainOperand(o string, w, at uint32) string {
	s := slots[o]
	n := w >> s.at & (1<<s.bits - 1)
	switch o {
	case "n":
		return fmt.Sprint(n)
	case "m":
		return fmt.Sprint(signed(n, 20))
	case "k":
		return conditionNames[n]
	case "t":
		to := (int64(at) + 4 + 4*signed(n, 24)) % (1 << 32)
		return fmt.Sprint((to + 1<<32) % (1 << 32))
	}
	return fmt.Sprintf("R%d", n)
}

// plainShow is P6.1 by the rows.
func plainShow(w, at uint32) string {
	for _, r := range allRows {
		if w&^r.mask != r.bits {
			continue
		}
		var operands []string
		for _, o := range r.operands() {
			operands = append(operands, plainOperand(o, w, at))
		}
		return r.name() + " " + strings.Join(operands, ", ")
	}
	return fmt.Sprintf("WORD %08X", w)
}

// reading is a row as a pattern of lines.
type reading struct {
	row
	pattern *regexp.Regexp
}

const (
	plainRegister = `R(0|[1-9]|1[0-5])`
	plainNumber   = `(0|-?[1-9][0-9]*)`
	plainDigits   = `([0-9A-F]{1,8})`
	plainBlank    = `[\x20\x09\x0d]`
)

// readings are the rows as patterns, by their names.
func readings() map[string][]reading {
	shapes := map[string]string{
		"Ra": plainRegister, "Rb": plainRegister, "Rc": plainRegister, "n": plainNumber, "m": plainNumber, "t": plainNumber, "d": plainDigits,
		"k": "(" + strings.Join(conditionNames, "|") + ")",
	}
	out := map[string][]reading{}
	for _, r := range append(rows(), row{text: "WORD d"}) {
		var parts []string
		for _, o := range r.operands() {
			parts = append(parts, shapes[o])
		}
		list := strings.Join(parts, plainBlank+`*,`+plainBlank+`*`)
		p := regexp.MustCompile(`\A` + plainBlank + `*` + r.name() + plainBlank + `+` + list + plainBlank + `*\z`)
		out[r.name()] = append(out[r.name()], reading{r, p})
	}
	return out
}

var firstLetters = regexp.MustCompile(`\A` + plainBlank + `*([A-Z]+)`)

// plainLine is the word of a line without its remark; false: it is none.
func plainLine(all map[string][]reading, line string, at uint32) (uint32, bool) {
	name := firstLetters.FindStringSubmatch(line)
	if name == nil {
		return 0, false
	}
	for _, r := range all[name[1]] {
		if found := r.pattern.FindStringSubmatch(line); found != nil {
			return r.word(found[1:], at)
		}
	}
	return 0, false
}

// word is that of a row with such operands; false: one of them is too low or too high.
func (r row) word(texts []string, at uint32) (uint32, bool) {
	w := r.bits
	for k, o := range r.operands() {
		if o == "d" {
			n, _ := new(big.Int).SetString(texts[k], 16)
			return uint32(n.Uint64()), true
		}
		n, ok := plainValue(o, texts[k], at)
		if !ok {
			return 0, false
		}
		w |= n << slots[o].at
	}
	return w, true
}

// plainValue are an operand's bits.
func plainValue(o, text string, at uint32) (uint32, bool) {
	if o == "k" {
		for n, name := range conditionNames {
			if name == text {
				return uint32(n), true
			}
		}
		return 0, false
	}
	big, _ := new(big.Int).SetString(text, 10)
	if !big.IsInt64() {
		return 0, false
	}
	n := big.Int64()
	switch o {
	case "n":
		return uint32(n), 0 <= n && n <= 65535
	case "m":
		return uint32(n) & 0xFFFFF, -524288 <= n && n <= 524287
	case "t":
		return plainBranch(n, at)
	}
	return uint32(n), true
}

// plainBranch looks for the number by which a branch goes on there: that of the three ways round the addresses that is short enough.
func plainBranch(to int64, at uint32) (uint32, bool) {
	if to < 0 || to > 4294967295 {
		return 0, false
	}
	for round := int64(-1); round <= 1; round++ {
		bytes := to + round<<32 - int64(at) - 4
		if n := bytes / 4; bytes%4 == 0 && -8388608 <= n && n <= 8388607 {
			return uint32(n) & 0xFFFFFF, true
		}
	}
	return 0, false
}

var (
	plainRemark  = regexp.MustCompile(`(?s);.*\z`)
	plainNothing = regexp.MustCompile(`\A` + plainBlank + `*\z`)
)

// plainParse is P6.3 by the rows.
func plainParse(all map[string][]reading, text string) ([]uint32, int, api.Errno) {
	if len(text) > 65536 {
		return nil, 0, 60
	}
	var words []uint32
	for k, line := range strings.Split(text, "\x0a") {
		line = plainRemark.ReplaceAllString(line, "")
		if plainNothing.MatchString(line) {
			continue
		}
		w, ok := plainLine(all, line, uint32(4*len(words)))
		if !ok {
			return nil, k + 1, 61
		}
		words = append(words, w)
	}
	return words, 0, 0
}
