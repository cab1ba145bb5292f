package show

import (
	"math"
	"strings"

	"carrel/api"
	"carrel/scan"
)

// What a node's Text has to be.
const (
	noText = iota
	name
	nameOrNone
	quoted
	signAhead
	signBetween
)

// many is more Kids than a tree that is right has.
const many = api.MaxNodes

// row is what DOC.md's row of a kind asks of a node by itself.
type row struct {
	text        int
	least, most int64 // N
	flag        bool  // it may be set
	from, to    int   // how many Kids
}

var rows = [...]row{
	api.NModule:  {text: name, to: many},
	api.NImport:  {text: name},
	api.NConst:   {text: name, flag: true, from: 1, to: 1},
	api.NType:    {text: name, from: 1, to: 1},
	api.NVar:     {from: 2, to: many},
	api.NProc:    {text: name, flag: true, to: many},
	api.NParam:   {flag: true, from: 2, to: many},
	api.NResult:  {text: name},
	api.NIdent:   {text: name, flag: true},
	api.NNamed:   {text: name},
	api.NArray:   {from: 2, to: 2},
	api.NOpen:    {from: 1, to: 1},
	api.NRecord:  {text: nameOrNone, to: many},
	api.NFields:  {from: 2, to: many},
	api.NPointer: {from: 1, to: 1},
	api.NBlock:   {to: many},
	api.NAssign:  {from: 2, to: 2},
	api.NDo:      {from: 1, to: 1},
	api.NIf:      {from: 2, to: many},
	api.NWhile:   {from: 2, to: many},
	api.NRepeat:  {from: 2, to: 2},
	api.NFor:     {text: name, from: 3, to: 4},
	api.NReturn:  {from: 1, to: 1},
	api.NInt:     {least: math.MinInt32, most: math.MaxInt32},
	api.NChar:    {most: math.MaxUint8},
	api.NStr:     {text: quoted},
	api.NNil:     {},
	api.NBool:    {most: 1},
	api.NSet:     {to: many},
	api.NRange:   {from: 2, to: 2},
	api.NName:    {text: name},
	api.NField:   {text: name, from: 1, to: 1},
	api.NIndex:   {from: 2, to: 2},
	api.NDeref:   {from: 1, to: 1},
	api.NCall:    {from: 1, to: many},
	api.NUnary:   {text: signAhead, from: 1, to: 1},
	api.NBinary:  {text: signBetween, from: 2, to: 2},
}

// sound: has a tree at most MaxNodes parts, each of them by itself such as its row asks? Which stand where is not looked at.
func sound(n api.Node) bool {
	left := api.MaxNodes
	var each func(n api.Node) bool
	each = func(n api.Node) bool {
		left-- // also what ends the walk, as lists of Kids may have themselves within
		if left < 0 || !byItself(n) {
			return false
		}
		for _, kid := range n.Kids {
			if !each(kid) {
				return false
			}
		}
		return true
	}
	return each(n)
}

// byItself: has a node a kind, and the fields and as many Kids as its row asks for?
func byItself(n api.Node) bool {
	if n.Kind < api.NModule || n.Kind > api.NBinary {
		return false
	}
	asked := rows[n.Kind]
	return isText(n.Text, asked.text) &&
		asked.least <= n.N && n.N <= asked.most &&
		(asked.flag || !n.Flag) &&
		asked.from <= len(n.Kids) && len(n.Kids) <= asked.to
}

func isText(s string, asked int) bool {
	switch asked {
	case name:
		return scan.IsName(s)
	case nameOrNone:
		return s == "" || scan.IsName(s)
	case quoted:
		return isQuoted(s)
	case signAhead:
		return s == "+" || s == "-" || s == "~"
	case signBetween:
		return rankOf(s) != noRank
	}
	return s == ""
}

// isQuoted: may a text stand between two quotes?
func isQuoted(s string) bool {
	outside := func(c rune) bool { return c < ' ' || c > '~' || c == '"' }
	return len(s) <= api.MaxStr && !strings.ContainsFunc(s, outside)
}
