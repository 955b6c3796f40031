package total_test

import "testing"

// Carries and borrows, from each place to the highest and back, and terms that cancel.

// power tells the product that is 2^at times 2^-unit.
func power(at int) term {
	one := min(at/2, half+1023)
	return product(ldexp(1, one-half), ldexp(1, at-one-half))
}

func laid(t *testing.T, what string, at int, terms []term, sign int) {
	t.Helper()
	s, m := sumOf(terms...), modelOf(terms...)
	checkQuick(t, []any{what, at}, s, m)
	if s.Sign() != sign || !exactly(s, m) {
		t.Errorf("%s, 2^%d: Sign %d, exactly %t", what, at-unit, s.Sign(), exactly(s, m))
	}
}

func TestCarriesThroughAllWords(t *testing.T) {
	one := power(0)
	for at := range 2*(half+1023) + 1 {
		top := power(at)
		laid(t, "a borrow down to the lowest", at, []term{top, one.turned()}, min(at, 1))
		laid(t, "a carry up again", at, []term{top, one.turned(), one}, 1)
		laid(t, "all taken off", at, []term{top, one.turned(), top.turned()}, -1)
		laid(t, "from below 0 to 0", at, []term{top, one.turned(), top.turned(), one}, 0)
		laid(t, "below 0", at, []term{top.turned(), one}, -min(at, 1))
		laid(t, "below 0, and back", at, []term{top.turned(), one, one.turned()}, -1)
		laid(t, "from below 0 upward", at, []term{one.turned(), top, top}, 1)
		laid(t, "over 0 and back", at, []term{top.turned(), one, top}, 1)
	}
}

// TestCarriesBetween begins them at other places than the lowest.
func TestCarriesBetween(t *testing.T) {
	for low := 1; low < 2*(half+1023); low += 61 {
		for high := low; high < 2*(half+1023); high += 53 {
			a, b := power(low), power(high)
			laid(t, "less", high, []term{b, a.turned()}, min(high-low, 1))
			laid(t, "less, then more", high, []term{b, a.turned(), a, a}, 1)
			laid(t, "below 0", low, []term{a.turned(), b, b.turned()}, -1)
		}
	}
}

func TestTermsThatCancel(t *testing.T) {
	d := dice(4010)
	for range 300 {
		l := d.terms(1 + d.below(6))
		s := sumOf(l...)
		for i := range l { // wholly, in another order
			l[(i+1)%len(l)].turned().layIn(s)
		}
		told(t, "cancelled", s, 0, 0)
		everyWay(t, "cancelled", s, 0)
		rest := d.number() + 0 // no -0
		s.Add(rest)
		everyWay(t, "cancelled but for one", s, rest)
	}
	for _, x := range edges() {
		for _, y := range few() {
			s := sumOf(number(x), product(greatest, y), number(-x), product(-greatest, y))
			everyWay(t, "cancelled in pairs", s, 0)
			s.Mul(least, least)
			told(t, "cancelled in pairs but for the least", s, 1, 0)
		}
	}
}
