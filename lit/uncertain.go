package lit

import (
	"math/big"
	"strconv"
	"strings"

	"verge/api"
)

// uncertain takes a literal without brackets.
func (r *reader) uncertain() set {
	sign := r.sign()
	whole, behind := r.run(isDigit), ""
	if r.takes(".") {
		behind = r.run(isDigit)
	}
	if whole+behind == "" {
		r.giveUp()
	}
	r.must("?")
	endless, radius := r.takes("?"), ""
	if !endless {
		radius = r.run(isDigit)
	}
	below, above := r.direction()
	exp := r.exponent()
	if radius == "" { // half a unit is five of the next lower one
		behind, radius = behind+"0", "5"
	}
	return about{integer(sign + whole + behind), integer(radius), exp - len(behind), endless, below, above}.meant()
}

// direction tells on which sides of its middle an uncertain literal lies.
func (r *reader) direction() (below, above bool) {
	switch {
	case r.takes("uU"):
		return false, true
	case r.takes("dD"):
		return true, false
	}
	return true, true
}

func (r *reader) exponent() int {
	if !r.takes("eE") {
		return 0
	}
	sign := r.sign()
	at := r.at
	text := r.run(isDigit)
	if text == "" {
		r.giveUp()
	}
	exp, err := strconv.Atoi(sign + text)
	if err != nil || exp < -api.MaxExp || exp > api.MaxExp { // digits are refused for their size alone
		r.keep(at, api.ErrExp)
		return 0
	}
	return exp
}

// about is what an uncertain literal says of a number: that it lies about a middle. Both it and the
// radius are in units of 10^exp.
type about struct {
	middle, radius *big.Int
	exp            int
	endless        bool // whatever the radius says
	below, above   bool // on which sides of the middle
}

func (a about) meant() set {
	middle := written(a.middle, a.exp)
	s := set{low: middle, high: middle}
	if a.below {
		s.low = a.bound(new(big.Int).Sub(a.middle, a.radius))
	}
	if a.above {
		s.high = a.bound(new(big.Int).Add(a.middle, a.radius))
	}
	return s
}

func (a about) bound(whole *big.Int) string {
	if a.endless {
		return ""
	}
	return written(whole, a.exp)
}

func integer(digits string) *big.Int {
	whole, _ := new(big.Int).SetString(digits, 10)
	return whole
}

const (
	enough = 800 // digits: no number has as many
	beyond = 400 // a power of 10 that is above every number, and its inverse below all that are above 0
)

// written tells a numeral that is rounded down and up as the whole number times 10^exp is. Written out,
// that could be too long for a numeral, and its exponent too great: so of the digits behind enough of
// them it tells only that they are not all 0, and of an exponent beyond all numbers only that it is.
func written(whole *big.Int, exp int) string {
	all, neg := strings.CutPrefix(whole.String(), "-")
	point := len(all) + exp
	head := strings.TrimRight(all, "0")
	if head == "" {
		return "0"
	}
	if len(head) > enough {
		head = head[:enough] + "1"
	}
	text := "." + head + "e" + strconv.Itoa(max(min(point, beyond), -beyond))
	if neg {
		return "-" + text
	}
	return text
}
