package digits

import (
	"math/bits"
	"strconv"
	"strings"

	"verge/api"
	"verge/fbit"
	"verge/nat"
)

// decimal is the whole number of its digits times 10^exp, or minus that.
type decimal struct {
	neg    bool
	digits string
	exp    int
}

// allDigits tells a number in as few digits as tell all of it: the last is not 0, unless it is the
// only one. It is false of what is no number.
func allDigits(x float64) (decimal, bool) {
	neg, sig, exp, ok := fbit.Split(x)
	if !ok || sig == 0 {
		return decimal{digits: "0"}, ok
	}
	zeros := bits.TrailingZeros64(sig) // each of them would be a digit 0 more to be found and cut off
	whole, exp := times10(nat.Small(sig>>zeros), exp+zeros)
	digits := written(whole)
	short := strings.TrimRight(digits, "0")
	return decimal{neg, short, exp + len(digits) - len(short)}, true
}

// times10 tells sig times 2^exp as a whole number times 10^ten.
func times10(sig []uint32, exp int) (whole []uint32, ten int) {
	if exp >= 0 {
		whole, _ = nat.Shl(sig, exp)
		return whole, 0
	}
	fives, _ := nat.Pow(nat.Small(5), -exp)
	whole, _ = nat.Mul(sig, fives)
	return whole, exp
}

func (a decimal) exactly() rational {
	whole := natural(a.digits, 10)
	fives, _ := nat.Pow(nat.Small(5), max(a.exp, -a.exp))
	if a.exp < 0 {
		return rational{a.neg, whole, fives, a.exp}
	}
	whole, _ = nat.Mul(whole, fives)
	return rational{a.neg, whole, nat.Small(1), a.exp}
}

// rounded tells all digits of a number as n digits.
func (a decimal) rounded(d, n int) decimal {
	more := len(a.digits) - n
	if more <= 0 {
		return decimal{a.neg, a.digits + strings.Repeat("0", -more), a.exp + more}
	}
	if a.neg { // from here on the magnitude alone is looked at
		d = -d
	}
	head, exp := a.digits[:n], a.exp+more
	if upward(d, head, a.digits[n:]) {
		var carry int
		head, carry = raised(head)
		exp += carry
	}
	return decimal{a.neg, head, exp}
}

// upward tells whether head, with a tail behind it, is rounded to the next. The tail's last digit is
// not 0: so it is below, at or above one half as its text is ahead of "5", the same or behind it.
func upward(d int, head, tail string) bool {
	switch d {
	case api.Down:
		return false
	case api.Up:
		return true
	}
	odd := head[len(head)-1]%2 == 1
	return tail > "5" || tail == "5" && odd
}

// raised tells the next number of as many digits, times 10^carry.
func raised(head string) (next string, carry int) {
	kept := strings.TrimRight(head, "9")
	noughts := strings.Repeat("0", len(head)-len(kept))
	if kept == "" {
		return "1" + noughts[1:], 1
	}
	last := len(kept) - 1
	return kept[:last] + string(kept[last]+1) + noughts, 0
}

// shortened tells all digits of x as the fewest that are read as x. What lies nearest to x on either
// side is read as x, if anything of so many digits is; but next to a power of 2 what is nearest of all
// need not be.
func (a decimal) shortened(x float64) decimal {
	for n := 1; n < len(a.digits); n++ {
		for _, d := range [...]int{api.Near, api.Down, api.Up} {
			short := a.rounded(d, n)
			if short.exactly().rounded(api.Near) == x {
				return short
			}
		}
	}
	return a
}

// text tells the scientific form.
func (a decimal) text() string {
	return signed(a.neg, withPoint(a.digits)+"e"+strconv.Itoa(len(a.digits)-1+a.exp))
}

// withPoint puts the point behind the first digit, if there are more.
func withPoint(digits string) string {
	if len(digits) == 1 {
		return digits
	}
	return digits[:1] + "." + digits[1:]
}

func signed(neg bool, text string) string {
	if neg {
		return "-" + text
	}
	return text
}
