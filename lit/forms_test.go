package lit_test

import "strings"

// The chapter's section 'Words' as forms that go through a text on every way: the farthest byte that one
// of them reaches ends the longest beginning that begins some literal, since none of them is without an
// end.

type way struct {
	text string
	far  int
}

type form func(w *way, at int, then func(at int) bool) bool

// whole tells whether all of a text is of a form, and how long the longest beginning is.
func (f form) whole(text string) (bool, int) {
	w := &way{text: text}
	ok := f(w, 0, func(at int) bool { return at == len(text) })
	return ok, w.far
}

func oneOf(set string) form {
	return func(w *way, at int, then func(int) bool) bool {
		if at == len(w.text) || strings.IndexByte(set, w.text[at]) < 0 {
			return false
		}
		w.far = max(w.far, at+1)
		return then(at + 1)
	}
}

func nothing(_ *way, at int, then func(int) bool) bool { return then(at) }

func inTurn(forms ...form) form {
	if len(forms) == 0 {
		return nothing
	}
	return func(w *way, at int, then func(int) bool) bool {
		return forms[0](w, at, func(at int) bool { return inTurn(forms[1:]...)(w, at, then) })
	}
}

func either(forms ...form) form {
	return func(w *way, at int, then func(int) bool) bool {
		for _, f := range forms {
			if f(w, at, then) {
				return true
			}
		}
		return false
	}
}

func maybe(f form) form { return either(f, nothing) }

func many(f form) form {
	return func(w *way, at int, then func(int) bool) bool {
		return f(w, at, func(at int) bool { return many(f)(w, at, then) }) || then(at)
	}
}

func some(f form) form { return inTurn(f, many(f)) }

// word: in capital and small letters.
func word(s string) form {
	var letters []form
	for _, c := range s {
		letters = append(letters, oneOf(string(c)+strings.ToUpper(string(c))))
	}
	return inTurn(letters...)
}

var (
	blank    = many(oneOf(" \t\n\r"))
	sign     = maybe(oneOf("+-"))
	digit    = oneOf("0123456789")
	hexDigit = oneOf("0123456789abcdefABCDEF")
	exponent = inTurn(oneOf("eE"), sign, some(digit))
)

func pointed(d form) form {
	return either(inTurn(some(d), maybe(inTurn(oneOf("."), many(d)))), inTurn(oneOf("."), some(d)))
}

var (
	aNumeral = inTurn(sign, either(
		inTurn(pointed(digit), maybe(exponent)),
		inTurn(oneOf("0"), oneOf("xX"), pointed(hexDigit), oneOf("pP"), sign, some(digit)),
		inTurn(some(digit), oneOf("/"), some(digit))))
	aLower        = either(aNumeral, word("-inf"), word("-infinity"), nothing)
	anUpper       = either(aNumeral, word("inf"), word("+inf"), word("infinity"), word("+infinity"), nothing)
	uncertainForm = inTurn(sign, pointed(digit), oneOf("?"), either(some(digit), oneOf("?"), nothing), maybe(oneOf("uUdD")), maybe(exponent))
	bareForm      = either(inside(either(word("empty"), word("entire"), aNumeral, inTurn(aLower, blank, oneOf(","), blank, anUpper), nothing)), uncertainForm)
	decoratedForm = either(inside(word("nai")), inTurn(bareForm, maybe(inTurn(oneOf("_"), either(word("com"), word("dac"), word("def"), word("trv"))))))
)

func inside(f form) form { return inTurn(oneOf("["), blank, f, blank, oneOf("]")) }
