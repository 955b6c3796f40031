package lit

import "strings"

const (
	blanks        = " \t\n\r"
	decimalDigits = "0123456789"
)

func (r *reader) sign() string {
	from := r.at
	r.takes("+-")
	return r.text[from:r.at]
}

// must takes one byte, or gives up.
func (r *reader) must(oneOf string) {
	if !r.takes(oneOf) {
		r.giveUp()
	}
}

// takes takes one byte, if it is one of some.
func (r *reader) takes(oneOf string) bool {
	if !starts(r.text[r.at:], oneOf) {
		return false
	}
	r.at++
	return true
}

// run takes all letters from here on that are of a kind.
func (r *reader) run(is func(c rune) bool) string {
	rest := r.text[r.at:]
	for i, c := range rest {
		if !is(c) {
			rest = rest[:i]
			break
		}
	}
	r.at += len(rest)
	return rest
}

func isBlank(c rune) bool { return strings.ContainsRune(blanks, c) }

func isDigit(c rune) bool { return strings.ContainsRune(decimalDigits, c) }

// isInside: an item goes on up to a blank, a comma or a closing bracket.
func isInside(c rune) bool { return !strings.ContainsRune(blanks+",]", c) }

// alike tells how many bytes a text and a word (of small letters) begin with in common, letters being
// capital or small.
func alike(text, word string) int {
	for i, c := range text {
		if i == len(word) || small(c) != rune(word[i]) {
			return i
		}
	}
	return len(text)
}

// small tells a capital letter's small one. (Unicode would take some signs of other scripts for letters, too.)
func small(c rune) rune {
	if c >= 'A' && c <= 'Z' {
		return c - 'A' + 'a'
	}
	return c
}

// starts tells whether a text's first byte is one of some.
func starts(text, oneOf string) bool { return text != "" && strings.IndexByte(oneOf, text[0]) >= 0 }
