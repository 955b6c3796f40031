package infix

import (
	"slices"

	"verge/api"
)

// longestName: in bytes.
const longestName = 64

// word is an operation that is written by a word, with so many sums in its brackets.
type word struct {
	text string
	op   int
	sums int
}

var words = [...]word{
	{"id", api.OpId, 1}, {"sqr", api.OpSqr, 1}, {"sqrt", api.OpSqrt, 1}, {"recip", api.OpRecip, 1}, {"fma", api.OpFMA, 3},
	{"pown", api.OpPown, 1}, {"abs", api.OpAbs, 1}, {"min", api.OpMin, 2}, {"max", api.OpMax, 2}, {"sign", api.OpSign, 1},
	{"floor", api.OpFloor, 1}, {"ceil", api.OpCeil, 1}, {"trunc", api.OpTrunc, 1}, {"even", api.OpRoundEven, 1}, {"away", api.OpRoundAway, 1},
}

// wordOf tells the word that a text is.
func wordOf(text string) (word, bool) {
	for _, w := range words {
		if w.text == text {
			return w, true
		}
	}
	return word{}, false
}

// wordFor tells the word that an operation is written by.
func wordFor(op int) word {
	for _, w := range words {
		if w.op == op {
			return w
		}
	}
	return word{}
}

// join is an operation that is written by a sign between its operands.
type join struct {
	sign rune
	op   int
}

var joins = [...]join{{'+', api.OpAdd}, {'-', api.OpSub}, {'*', api.OpMul}, {'/', api.OpDiv}}

// joining tells the operation of a sign between two.
func joining(sign rune) int {
	for _, j := range joins {
		if j.sign == sign {
			return j.op
		}
	}
	return 0
}

// signFor tells the sign that stands between an operation's two operands.
func signFor(op int) (sign string, ok bool) {
	for _, j := range joins {
		if j.op == op {
			return string(j.sign), true
		}
	}
	return "", false
}

// mayBe tells whether names may be those of variables.
func mayBe(names []string) bool {
	if len(names) > api.MaxVars {
		return false
	}
	for i, name := range names {
		if !isName(name) || slices.Contains(names[:i], name) {
			return false
		}
	}
	return true
}

func isName(text string) bool {
	t := scan(text, 0)
	return t.kind == aName && t.text == text
}
