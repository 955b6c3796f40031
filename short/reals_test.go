package short_test

import (
	"cmp"
	"math"
	"math/big"

	"verge/api"
)

// What the tests measure by: sets of reals with exact ends, on math/big.

// long is room enough for the greatest power of a number, times another one.
const long = 24*api.MaxPow + 1100

func room() *big.Float                 { return new(big.Float).SetPrec(long) }
func exactly(x float64) *big.Float     { return room().SetFloat64(x) }
func times(a, b *big.Float) *big.Float { return room().Mul(a, b) }

// limit is where a set begins or ends: an infinity, or the real num by den, den above 0; in tells
// that it is an element.
type limit struct {
	infinity int // -1 or 1; else 0
	num, den *big.Float
	in       bool
}

// end tells a limit at a number or an infinity.
func end(x float64, in bool) limit {
	if math.IsInf(x, 0) {
		return infinite(int(math.Copysign(1, x)))
	}
	return limit{0, exactly(x), exactly(1), in}
}

func infinite(sign int) limit { return limit{infinity: sign} }

// order tells -1, 0, 1, as a lies below b, at it, above it.
func order(a, b limit) int {
	if a.infinity != 0 || b.infinity != 0 {
		return cmp.Compare(a.infinity, b.infinity)
	}
	return times(a.num, b.den).Cmp(times(b.num, a.den))
}

func (a limit) sign() int {
	if a.infinity != 0 {
		return a.infinity
	}
	return a.num.Sign()
}

func (a limit) minus() limit {
	if a.infinity != 0 {
		return infinite(-a.infinity)
	}
	return limit{0, room().Neg(a.num), a.den, a.in}
}

// plus takes no two unlike infinities.
func (a limit) plus(b limit) limit {
	if a.infinity != 0 || b.infinity != 0 {
		return infinite(a.infinity | b.infinity)
	}
	sum := room().Add(times(a.num, b.den), times(b.num, a.den))
	return limit{0, sum, times(a.den, b.den), a.in && b.in}
}

// Of limits of sets above 0: neither is below 0, one that is 0 is no element.

func (a limit) by(b limit) limit {
	switch {
	case a.infinity != 0 || b.sign() == 0:
		return infinite(1)
	case b.infinity != 0:
		return end(0, false)
	}
	return limit{0, times(a.num, b.den), times(a.den, b.num), a.in && b.in}
}

func (a limit) times(b limit) limit {
	if a.infinity != 0 || b.infinity != 0 {
		return infinite(1)
	}
	return limit{0, times(a.num, b.num), times(a.den, b.den), a.in && b.in}
}

// power takes n above 0.
func (a limit) power(n int) limit {
	if a.infinity != 0 || n == 1 {
		return a
	}
	half := a.power(n / 2)
	if n%2 == 0 {
		return half.times(half)
	}
	return half.times(half).times(a)
}

// span is a set of reals without gaps that is not empty.
type span struct{ lo, hi limit }

// of tells the set that an interval denotes, which is not Empty.
func of(x api.Short) span { return span{end(float64(x.Lo), true), end(float64(x.Hi), true)} }

func single(x float64) span { return span{end(x, true), end(x, true)} }

func (s span) minus() span { return span{s.hi.minus(), s.lo.minus()} }

func (s span) plus(u span) span { return span{s.lo.plus(u.lo), s.hi.plus(u.hi)} }

// meets tells whether two sets have an element in common.
func (s span) meets(u span) bool { return reaches(s.lo, u.hi) && reaches(u.lo, s.hi) }

// reaches tells whether a set that begins at lo, and one that ends at hi, leave room for an element.
func reaches(lo, hi limit) bool {
	c := order(lo, hi)
	return c < 0 || c == 0 && lo.in && hi.in
}

// parted tells what of a set lies below 0, whether 0 is an element, and what lies above 0.
func (s span) parted() (under []span, nought bool, over []span) {
	if s.lo.sign() < 0 {
		under = []span{{s.lo, s.hi}}
		if s.hi.sign() >= 0 {
			under[0].hi = end(0, false)
		}
	}
	if s.hi.sign() > 0 {
		over = []span{{s.lo, s.hi}}
		if s.lo.sign() <= 0 {
			over[0].lo = end(0, false)
		}
	}
	return under, s.meets(single(0)), over
}

// paired tells what f, which is asked of sets above 0 alone, and whose value has the sign of a
// product, makes of the parts of two sets that are not 0.
func paired(s, u span, f func(a, b span) span) []span {
	var out []span
	sUnder, _, sOver := s.parted()
	uUnder, _, uOver := u.parted()
	for _, a := range sOver {
		for _, b := range uOver {
			out = append(out, f(a, b))
		}
		for _, b := range uUnder {
			out = append(out, f(a, b.minus()).minus())
		}
	}
	for _, a := range sUnder {
		for _, b := range uOver {
			out = append(out, f(a.minus(), b).minus())
		}
		for _, b := range uUnder {
			out = append(out, f(a.minus(), b.minus()))
		}
	}
	return out
}

// products tells all products of elements.
func products(s, u span) []span {
	out := paired(s, u, func(a, b span) span { return span{a.lo.times(b.lo), a.hi.times(b.hi)} })
	_, sNought, _ := s.parted()
	_, uNought, _ := u.parted()
	if sNought || uNought {
		out = append(out, single(0))
	}
	return out
}

// ratios tells all quotients of elements that are defined.
func ratios(s, u span) []span {
	out := paired(s, u, func(a, b span) span { return span{a.lo.by(b.hi), a.hi.by(b.lo)} })
	_, nought, _ := s.parted()
	under, _, over := u.parted()
	if nought && len(under)+len(over) > 0 {
		out = append(out, single(0))
	}
	return out
}

// powers tells all powers of elements that are defined.
func powers(s span, n int) []span {
	if n == 0 {
		return []span{single(1)}
	}
	under, nought, over := s.parted()
	var out []span
	if nought && n > 0 {
		out = append(out, single(0))
	}
	for _, a := range over {
		out = append(out, raised(a, n))
	}
	for _, a := range under {
		if n%2 == 0 {
			out = append(out, raised(a.minus(), n))
		} else {
			out = append(out, raised(a.minus(), n).minus())
		}
	}
	return out
}

// raised takes a set above 0.
func raised(s span, n int) span {
	if n > 0 {
		return span{s.lo.power(n), s.hi.power(n)}
	}
	one := end(1, true)
	return span{one.by(s.hi.power(-n)), one.by(s.lo.power(-n))}
}

// lesser tells all lesser ones of an element of each.
func lesser(s, u span) span {
	out := span{s.lo, s.hi}
	switch order(u.lo, s.lo) {
	case -1:
		out.lo = u.lo
	case 0: // one of them may be the lesser alone
		out.lo.in = s.lo.in || u.lo.in
	}
	switch order(u.hi, s.hi) {
	case -1:
		out.hi = u.hi
	case 0: // neither may lie below
		out.hi.in = s.hi.in && u.hi.in
	}
	return out
}
