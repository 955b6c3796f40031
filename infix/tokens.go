package infix

import (
	"strings"

	"verge/api"
	"verge/digits"
	"verge/lit"
)

// The kinds of tokens. A sign is of a kind of its own: the sign itself.
const (
	noToken rune = iota // what stands here begins none
	theEnd
	aName
	aWord
	aNumeral
	aLiteral
)

const (
	blanks = " \t\n\r"
	signs  = "+-*/^(),;="
)

// token is a token, and the place of its first byte.
type token struct {
	kind rune
	at   int
	text string
}

func (t token) end() int { return t.at + len(t.text) }

// scan tells the first token from a place on.
func scan(text string, from int) token {
	for i, c := range text[from:] {
		if !isBlank(c) {
			at := from + i
			kind, found := begun(c, text[at:])
			return token{kind, at, found}
		}
	}
	return token{kind: theEnd, at: len(text)}
}

// begun tells the kind and the text of the token that a text begins with, its first letter being c.
func begun(c rune, rest string) (kind rune, found string) {
	switch {
	case isLetter(c):
		return wordOrName(run(rest, isInName))
	case isDigit(c):
		return numeralIn(longestNumeral(rest))
	case c == '[':
		return literalIn(rest)
	case strings.ContainsRune(signs, c):
		return c, rest[:1]
	}
	return noToken, ""
}

func wordOrName(found string) (rune, string) {
	if len(found) > longestName {
		return noToken, ""
	}
	if _, ok := wordOf(found); ok {
		return aWord, found
	}
	return aName, found
}

func numeralIn(found string) (rune, string) {
	if _, _, e := digits.Read(api.Near, found); e != api.OK {
		return noToken, ""
	}
	return aNumeral, found
}

func literalIn(rest string) (rune, string) {
	found := rest[:strings.IndexByte(rest, ']')+1] // nothing, where none closes it: that is no literal
	if _, _, e := lit.Read(found); e != api.OK {
		return noToken, ""
	}
	return aLiteral, found
}

// longestNumeral tells the longest numeral, without a sign and without a slash, that a text begins with;
// its first letter is a digit.
func longestNumeral(s string) string {
	if n := hexadecimal(s); n > 0 {
		return s[:n]
	}
	n := pointed(s, isDigit)
	return s[:n+exponent(s[n:], "eE")]
}

// hexadecimal, pointed and exponent tell how many bytes of a text's beginning are such a one: none, if
// it does not begin with one.
func hexadecimal(s string) int {
	if !strings.HasPrefix(s, "0x") && !strings.HasPrefix(s, "0X") {
		return 0
	}
	digits := pointed(s[2:], isHexDigit)
	exp := exponent(s[2+digits:], "pP")
	if digits == 0 || exp == 0 {
		return 0
	}
	return 2 + digits + exp
}

func pointed(s string, is func(c rune) bool) int {
	n := len(run(s, is))
	if !strings.HasPrefix(s[n:], ".") {
		return n
	}
	behind := len(run(s[n+1:], is))
	if n+behind == 0 { // a point alone
		return 0
	}
	return n + 1 + behind
}

func exponent(s, letters string) int {
	if s == "" || !strings.Contains(letters, s[:1]) {
		return 0
	}
	n := 1
	if strings.HasPrefix(s[n:], "+") || strings.HasPrefix(s[n:], "-") {
		n++
	}
	digits := len(run(s[n:], isDigit))
	if digits == 0 {
		return 0
	}
	return n + digits
}

// run tells the letters of a kind that a text begins with.
func run(s string, is func(c rune) bool) string {
	for i, c := range s {
		if !is(c) {
			return s[:i]
		}
	}
	return s
}

func isBlank(c rune) bool { return strings.ContainsRune(blanks, c) }

func isLetter(c rune) bool { return c >= 'a' && c <= 'z' || c >= 'A' && c <= 'Z' }

func isDigit(c rune) bool { return c >= '0' && c <= '9' }

func isHexDigit(c rune) bool { return isDigit(c) || c >= 'a' && c <= 'f' || c >= 'A' && c <= 'F' }

func isInName(c rune) bool { return isLetter(c) || isDigit(c) || c == '_' }
