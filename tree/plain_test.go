package tree

import (
	"slices"
	"strings"

	"carrel/api"
	"carrel/scan"
)

// This file tells plainly which tokens may stand where, for Module and Expr to be held against: the language's rows as they are
// written, tried in every way at once, and what is open by a stack that looks at tokens alone.

// rows are DOC.md's rows. Words between ' are tokens; [ ] is once or not at all, { } any number of times, | parts choices.
const rows = `
source = Module end
lone = expression end
Module = 'MODULE' NAME ';' [ 'IMPORT' NAME { ',' NAME } ';' ] declarations [ 'BEGIN' Block ] 'END' NAME '.'
declarations = [ 'CONST' { Const ';' } ] [ 'TYPE' { Type ';' } ] [ 'VAR' { Var ';' } ] { Proc ';' }
Const = NAME [ '*' ] '=' expression
Type = NAME '=' type
Var = Ident { ',' Ident } ':' type
Ident = NAME [ '*' ]
Proc = 'PROCEDURE' NAME [ '*' ] [ '(' params ')' [ ':' NAME ] ] ';' [ 'CONST' { Const ';' } ] [ 'VAR' { Var ';' } ] body
params = [ Param { ';' Param } ]
body = [ 'BEGIN' Block ] [ 'RETURN' expression ] 'END' NAME
Param = [ 'VAR' ] NAME { ',' NAME } ':' formal
formal = NAME | 'ARRAY' 'OF' NAME
type = NAME | Array | Record | 'POINTER' 'TO' NAME
Array = 'ARRAY' expression { ',' expression } 'OF' type
Record = 'RECORD' [ '(' NAME ')' ] [ Fields { ';' Fields } ] 'END'
Fields = NAME { ',' NAME } ':' type
Block = [ statement ] { ';' [ statement ] }
statement = Assign | Do | If | While | Repeat | For
Assign = designator ':=' expression
Do = designator
If = 'IF' expression 'THEN' Block { 'ELSIF' expression 'THEN' Block } [ 'ELSE' Block ] 'END'
While = 'WHILE' expression 'DO' Block { 'ELSIF' expression 'DO' Block } 'END'
Repeat = 'REPEAT' Block 'UNTIL' expression
For = 'FOR' NAME ':=' expression 'TO' expression [ 'BY' expression ] 'DO' Block 'END'
expression = simple | simple relation simple
relation = '=' | '#' | '<' | '<=' | '>' | '>=' | 'IN' | 'IS'
simple = [ '+' | '-' ] term { addition term }
addition = '+' | '-' | 'OR'
term = factor { multiplication factor }
multiplication = '*' | '/' | 'DIV' | 'MOD' | '&'
factor = '~' factor | '(' expression ')' | designator | INT | CHAR | STR | 'NIL' | 'TRUE' | 'FALSE' | Set
Set = '{' [ element { ',' element } ] '}'
element = expression | expression '..' expression
designator = NAME { '.' NAME | '[' expression { ',' expression } ']' | '^' | '(' [ expression { ',' expression } ] ')' }
`

// Kinds of forms of which rows are made.
const (
	ofToken = iota
	ofRow
	inOrder
	oneOf
	atMostOnce
	anyNumber
)

type form struct {
	kind  int
	text  string // ofToken, ofRow
	parts []form // all others
}

// readRows reads the rows.
func readRows() map[string]form {
	read := map[string]form{}
	for line := range strings.Lines(strings.TrimSpace(rows)) {
		words := strings.Fields(line)
		read[words[0]], _ = readForm(words[2:])
	}
	return read
}

// readForm reads choices up to a bracket that closes, and what stands behind that.
func readForm(words []string) (form, []string) {
	choices, order := form{kind: oneOf}, form{kind: inOrder}
	for len(words) > 0 {
		word := words[0]
		words = words[1:]
		if word == "]" || word == "}" {
			break
		}
		one := form{}
		switch {
		case word == "|":
			choices.parts, order = append(choices.parts, order), form{kind: inOrder}
			continue
		case word == "[" || word == "{":
			one, words = readForm(words)
			one = form{kind: map[string]int{"[": atMostOnce, "{": anyNumber}[word], parts: []form{one}}
		case word[0] == '\'':
			one = form{kind: ofToken, text: strings.Trim(word, "'")}
		case strings.Contains(" NAME INT CHAR STR end ", " "+word+" "):
			one = form{kind: ofToken, text: word}
		default:
			one = form{kind: ofRow, text: word}
		}
		order.parts = append(order.parts, one)
	}
	choices.parts = append(choices.parts, order)
	return choices, words
}

type place struct {
	row string
	at  int
}

// trial tries all ways in which tokens can be what rows say.
type trial struct {
	rows  map[string]form
	words []string
	done  map[place][]int
	asked []map[string]bool // at each token: which ones, of those that could stand there, were asked for
}

func newTrial(rows map[string]form, tokens []api.Token) *trial {
	tr := &trial{rows: rows, done: map[place][]int{}}
	for _, token := range tokens {
		tr.words = append(tr.words, wordOf(token))
		tr.asked = append(tr.asked, map[string]bool{})
	}
	return tr
}

// wordOf is a token as the rows name it. (No keyword and no sign is called like a kind of tokens.)
func wordOf(token api.Token) string {
	switch token.Kind {
	case api.TokName:
		return "NAME"
	case api.TokInt:
		return "INT"
	case api.TokChar:
		return "CHAR"
	case api.TokStr:
		return "STR"
	case api.TokEnd:
		return "end"
	}
	return token.Text
}

// with adds places to some, each once.
func with(some []int, more ...int) []int {
	for _, one := range more {
		if !slices.Contains(some, one) {
			some = append(some, one)
		}
	}
	return some
}

// ends are all the places at which a form that begins at a token may end.
func (tr *trial) ends(f form, at int) []int {
	var reached []int
	switch f.kind {
	case ofToken:
		if at == len(tr.words) {
			return nil
		}
		tr.asked[at][f.text] = true
		if tr.words[at] == f.text {
			reached = []int{at + 1}
		}
	case ofRow:
		p := place{f.text, at}
		if _, again := tr.done[p]; !again {
			tr.done[p] = tr.ends(tr.rows[f.text], at)
		}
		return tr.done[p]
	case oneOf:
		for _, part := range f.parts {
			reached = with(reached, tr.ends(part, at)...)
		}
	case inOrder:
		reached = []int{at}
		for _, part := range f.parts {
			var behind []int
			for _, end := range reached {
				behind = with(behind, tr.ends(part, end)...)
			}
			reached = behind
		}
	case atMostOnce:
		reached = with([]int{at}, tr.ends(f.parts[0], at)...)
	case anyNumber:
		reached = []int{at}
		for k := 0; k < len(reached); k++ {
			reached = with(reached, tr.ends(f.parts[0], reached[k])...)
		}
	}
	return reached
}

// plainBad is the number of the first token that can't stand there; -1: there is none. What was asked for at a token is what could.
func plainBad(rows map[string]form, start string, tokens []api.Token) (int, []map[string]bool) {
	tr := newTrial(rows, tokens)
	if len(tr.ends(tr.rows[start], 0)) > 0 {
		return -1, tr.asked
	}
	last := 0
	for k, asked := range tr.asked {
		if len(asked) > 0 {
			last = k
		}
	}
	return last, tr.asked
}

// plainNames is the number of the first NAME behind an END that is not the Proc's, or the Module's; -1: there is none.
func plainNames(tokens []api.Token) int {
	module, current := "", ""
	for k, token := range tokens {
		if k == 0 || token.Kind != api.TokName {
			continue
		}
		switch wordOf(tokens[k-1]) {
		case "MODULE":
			module, current = token.Text, token.Text
		case "PROCEDURE":
			current = token.Text
		case "END":
			if token.Text != current {
				return k
			}
			current = module
		}
	}
	return -1
}

// Marks of the stack of what is open. Those of small letters do not count.
const (
	markBracket = 'B' // ( [ {
	markSign    = '-' // + or - ahead of a term
	markNot     = '~'
	markArray   = 'A'
	markEnd     = 'E' // up to an END: RECORD, IF, WHILE, FOR
	markRepeat  = 'R'
	markUntil   = 'U' // the same, behind its UNTIL
	markHeading = 'h' // a procedure's (
	markBase    = 'b' // a record's (
)

type stack []rune

func (s *stack) push(mark rune) { *s = append(*s, mark) }

// drop takes marks off, as long as they are some of these, and no more than so many.
func (s *stack) drop(some string, most int) {
	for ; most > 0 && len(*s) > 0 && strings.ContainsRune(some, (*s)[len(*s)-1]); most-- {
		*s = (*s)[:len(*s)-1]
	}
}

func (s *stack) top(mark rune) bool { return len(*s) > 0 && (*s)[len(*s)-1] == mark }

func (s *stack) counted() int {
	n := 0
	for _, mark := range *s {
		if mark != markHeading && mark != markBase {
			n++
		}
	}
	return n
}

func among(word string, words string) bool { return strings.Contains(" "+words+" ", " "+word+" ") }

// plainDeep is the number of the first token with which more than 24 are open; -1: there is none.
func plainDeep(tokens []api.Token) int {
	var s stack
	behind := ""  // the word ahead of this one
	heading := "" // the words since PROCEDURE, as long as they may be a heading's beginning
	for k, token := range tokens {
		word := wordOf(token)
		s.operand(behind, word)
		s.token(behind, heading, word)
		if s.counted() > api.MaxOpen {
			return k
		}
		behind = word
		if heading += " " + word; word == "PROCEDURE" {
			heading = word
		}
	}
	return -1
}

// operand ends what is signed, if an operand stands behind the sign that does not go on with this word.
func (s *stack) operand(behind, word string) {
	if !among(behind, "NAME INT CHAR STR NIL TRUE FALSE ) ] } ^") || among(word, ". [ ^ (") {
		return
	}
	signed := "~"
	if !among(word, "* / DIV MOD &") {
		signed = "~-"
	}
	s.drop(signed, 1000)
}

// token opens and closes what a word does.
func (s *stack) token(behind, heading, word string) {
	switch word {
	case "~":
		s.push(markNot)
	case "+", "-":
		if !among(behind, "NAME INT CHAR STR NIL TRUE FALSE ) ] } ^") {
			s.push(markSign)
		}
	case "(":
		switch {
		case behind == "RECORD":
			s.push(markBase)
		case heading == "PROCEDURE NAME" || heading == "PROCEDURE NAME *":
			s.push(markHeading)
		default:
			s.push(markBracket)
		}
	case "[", "{":
		s.push(markBracket)
	case ")", "]", "}":
		s.drop("Bhb", 1)
	case "ARRAY":
		if !s.top(markHeading) {
			s.push(markArray)
		}
	case ",":
		if s.top(markArray) {
			s.push(markArray)
		}
	case "RECORD", "IF", "WHILE", "FOR":
		s.push(markEnd)
	case "REPEAT":
		s.push(markRepeat)
	case ";", "ELSE", "ELSIF", "RETURN":
		s.drop("AU", 1000)
	case "UNTIL":
		s.drop("U", 1000)
		s.drop("R", 1)
		s.push(markUntil)
	case "END":
		s.drop("AU", 1000)
		s.drop("E", 1)
	}
}

// plainFault is the first fault of a source, and its place.
func plainFault(rows map[string]form, start, s string) (int, api.Errno) {
	tokens, at, e := scan.All(s)
	if e != api.OK {
		return at, e
	}
	bad, _ := plainBad(rows, start, tokens)
	names, deep := plainNames(tokens), plainDeep(tokens)
	for k, token := range tokens {
		switch k {
		case bad:
			return token.At, api.ErrTreeToken
		case names:
			return token.At, api.ErrTreeName
		case deep:
			return token.At, api.ErrTreeDeep
		}
	}
	return 0, api.OK
}
