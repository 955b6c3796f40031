package digits

import (
	"strconv"
	"strings"

	"verge/api"
	"verge/nat"
)

const (
	decimalDigits = "0123456789"
	hexDigits     = decimalDigits + "abcdefABCDEF"
)

// fault is what the reader gives up with.
type fault struct {
	at int
	e  api.Errno
}

// taken is the reader's face: it tells what a numeral says, or the fault that the reader gave up with.
func taken(s string) (said rational, at int, e api.Errno) {
	defer func() {
		if r := recover(); r != nil {
			f := r.(fault) // a panic of another kind says nothing of the text: it is not stopped here
			at, e = f.at, f.e
		}
	}()
	if len(s) > api.MaxText {
		panic(fault{api.MaxText, api.ErrLong})
	}
	r := reader{text: s}
	return r.numeral(), 0, api.OK
}

// reader goes through a text: what is ahead of at is a beginning of some numeral.
type reader struct {
	text string
	at   int
}

func (r *reader) giveUp() { panic(fault{r.at, api.ErrDigits}) }

func (r *reader) numeral() rational {
	neg := r.sign()
	if r.opens("0x") || r.opens("0X") {
		return r.hexadecimal(neg)
	}
	whole := r.run(decimalDigits)
	if whole != "" && r.takes("/") {
		return r.ratio(neg, whole)
	}
	return r.decimal(neg, whole)
}

func (r *reader) hexadecimal(neg bool) rational {
	digits, behind := r.pointed(r.run(hexDigits), hexDigits)
	if !r.takes("pP") {
		r.giveUp()
	}
	exp := r.exponent()
	return rational{neg, natural(digits, 16), nat.Small(1), exp - 4*behind}
}

func (r *reader) ratio(neg bool, first string) rational {
	from := r.at
	den := natural(r.last(), 10)
	if nat.Len(den) == 0 {
		panic(fault{from, api.ErrDigits})
	}
	return rational{neg, natural(first, 10), den, 0}
}

func (r *reader) decimal(neg bool, whole string) rational {
	digits, behind := r.pointed(whole, decimalDigits)
	exp := 0
	if r.takes("eE") {
		exp = r.exponent()
	}
	r.end()
	return decimal{neg, digits, exp - behind}.exactly()
}

// pointed goes on behind digits that may have a point: it tells them and those behind it, and how many
// these are.
func (r *reader) pointed(whole, set string) (digits string, behind int) {
	part := ""
	if r.takes(".") {
		part = r.run(set)
	}
	if whole == "" && part == "" {
		r.giveUp()
	}
	return whole + part, len(part)
}

// exponent takes what stands behind its letter, to the end of the text: that it is too great is told
// only of a numeral.
func (r *reader) exponent() int {
	neg := r.sign()
	from := r.at
	exp, err := strconv.Atoi(r.last())
	if err != nil || exp > api.MaxExp { // digits are refused for their size alone
		panic(fault{from, api.ErrExp})
	}
	if neg {
		return -exp
	}
	return exp
}

// last takes digits, at least one, behind which nothing may stand.
func (r *reader) last() string {
	digits := r.run(decimalDigits)
	if digits == "" {
		r.giveUp()
	}
	r.end()
	return digits
}

func (r *reader) end() {
	if r.at < len(r.text) {
		r.giveUp()
	}
}

func (r *reader) sign() (neg bool) {
	neg = r.takes("-")
	if !neg {
		r.takes("+")
	}
	return neg
}

// run takes all bytes from here on that are of a set.
func (r *reader) run(set string) string {
	rest := r.text[r.at:]
	found := rest[:len(rest)-len(strings.TrimLeft(rest, set))]
	r.at += len(found)
	return found
}

// takes takes one byte, if it is of a set.
func (r *reader) takes(set string) bool {
	if r.at == len(r.text) || strings.IndexByte(set, r.text[r.at]) < 0 {
		return false
	}
	r.at++
	return true
}

// opens takes a word, if it stands here.
func (r *reader) opens(word string) bool {
	if !strings.HasPrefix(r.text[r.at:], word) {
		return false
	}
	r.at += len(word)
	return true
}
