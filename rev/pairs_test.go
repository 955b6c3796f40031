package rev_test

import (
	"math/big"
	"testing"

	"verge/api"
	"verge/rev"
)

// P10.2

type pair struct{ b, c, lower, upper api.Interval }

func checkPairs(t *testing.T, pairs []pair) {
	t.Helper()
	for _, p := range pairs {
		lower, upper := rev.MulPair(p.b, p.c)
		is(t, lower, p.lower, "MulPair(%x, %x): lower", p.b, p.c)
		is(t, upper, p.upper, "MulPair(%x, %x): upper", p.b, p.c)
	}
}

// checkMulPair holds both parts against what the document says of T.
func checkMulPair(t *testing.T, b, c api.Interval) {
	t.Helper()
	lower, upper := rev.MulPair(b, c)
	b, none := taken(b)
	c, nothing := taken(c)
	inT := func(v span) bool { return !none && !nothing && askMul([]span{of(b), of(c)}, v) }
	all, low, high := of(entire), span{infinite(-1), end(0, false)}, span{end(0, false), infinite(1)}
	if !none && b.Lo < 0 && b.Hi > 0 && !nothing && !(c.Lo <= 0 && c.Hi >= 0) {
		checkLeast(t, lower, low, inT, "MulPair(%x, %x): lower", b, c)
		checkLeast(t, upper, high, inT, "MulPair(%x, %x): upper", b, c)
		return
	}
	checkLeast(t, lower, all, inT, "MulPair(%x, %x): lower", b, c)
	is(t, upper, empty, "MulPair(%x, %x): upper", b, c)
}

func TestMulPair(t *testing.T) {
	const third, over = 0x1.5555555555555p-2, 0x1.5555555555556p-2
	checkPairs(t, []pair{
		// Both sides of 0, c with no 0: below 0 it is the other part that comes first.
		{iv(-1, 2), at(-1), iv(-inf, -0.5), iv(1, inf)},
		{iv(-4, 2), iv(1, 3), iv(-inf, -0.25), iv(0.5, inf)},
		{iv(-4, 2), iv(-3, -1), iv(-inf, -0.5), iv(0.25, inf)},
		{iv(-3, 3), at(1), iv(-inf, -third), iv(third, inf)},
		{iv(-inf, 3), at(1), iv(-inf, 0), iv(third, inf)},
		{iv(-3, inf), at(1), iv(-inf, -third), iv(0, inf)},
		{iv(-3, inf), at(-1), iv(-inf, 0), iv(third, inf)},
		{entire, iv(1, inf), iv(-inf, 0), iv(0, inf)},
		{iv(-1, 1), iv(greatest, inf), iv(-inf, -greatest), iv(greatest, inf)},
		{iv(-least, least), iv(1, 2), iv(-inf, -greatest), iv(greatest, inf)},
		{iv(-greatest, greatest), at(least), iv(-inf, 0), iv(0, inf)},
		// Both sides of 0, c with 0.
		{iv(-1, 2), at(0), entire, empty},
		{iv(-1, 2), iv(-1, 0), entire, empty},
		{iv(-1, 2), iv(-1, 1), entire, empty},
		{entire, entire, entire, empty},
		// One side alone.
		{iv(2, 4), at(1), iv(0.25, 0.5), empty},
		{iv(-4, -2), at(1), iv(-0.5, -0.25), empty},
		{iv(2, 4), iv(-1, 1), iv(-0.5, 0.5), empty},
		{iv(-4, -2), iv(-1, 2), iv(-1, 0.5), empty},
		{at(3), at(1), iv(third, over), empty},
		{iv(1, inf), at(1), iv(0, 1), empty},
		{iv(1, inf), at(0), at(0), empty},
		{iv(1, inf), iv(-1, 0), iv(-1, 0), empty},
		{iv(0, 2), at(1), iv(0.5, inf), empty},
		{iv(0, 2), at(-1), iv(-inf, -0.5), empty},
		{iv(-2, 0), at(1), iv(-inf, -0.5), empty},
		{iv(-2, 0), iv(-1, 1), entire, empty},
		{iv(0, 2), at(0), entire, empty},
		{iv(0, inf), iv(1, inf), iv(0, inf), empty},
		// {0}.
		{at(0), at(0), entire, empty},
		{at(signed), iv(signed, 1), entire, empty},
		{at(0), iv(1, inf), empty, empty},
		// Empty.
		{empty, iv(1, 2), empty, empty},
		{iv(-1, 2), empty, empty, empty},
		{empty, empty, empty, empty},
		{iv(nan, 2), iv(1, 2), empty, empty},
		{iv(-1, 2), iv(2, 1), empty, empty},
	})
}

func TestMulPairOfAll(t *testing.T) {
	eachList(2, proper(-inf, -greatest, -2, -1, -least, 0, least, 1, 3, greatest, inf), func(list []api.Interval) { checkMulPair(t, list[0], list[1]) })
	eachList(2, crossed(edges()), func(list []api.Interval) { checkMulPair(t, list[0], list[1]) })
	d := dice(10010)
	for range 5000 {
		checkMulPair(t, d.interval(), d.interval())
		checkMulPair(t, d.wild(), d.wild())
	}
}

// P10.3

// rounded tells a sum of numbers, rounded down or up.
func rounded(mode big.RoundingMode, sum *big.Float) float64 {
	out, _ := new(big.Float).SetPrec(53).SetMode(mode).Set(sum).Float64()
	switch {
	case mode == big.ToNegativeInf && out == inf:
		return greatest
	case mode == big.ToPositiveInf && out == -inf:
		return -greatest
	}
	return out + 0
}

func less(p, q float64) *big.Float { return room().Sub(exactly(p), exactly(q)) }

func wantCancelMinus(x, y api.Interval) api.Interval {
	x, none := taken(x)
	y, nothing := taken(y)
	numbers := func(z api.Interval) bool { return z.Lo >= -greatest && z.Hi <= greatest && z != empty }
	switch {
	case numbers(x) && numbers(y) && less(x.Hi, x.Lo).Cmp(less(y.Hi, y.Lo)) >= 0:
		return iv(rounded(big.ToNegativeInf, less(x.Lo, y.Lo)), rounded(big.ToPositiveInf, less(x.Hi, y.Hi)))
	case none && (nothing || numbers(y)):
		return empty
	}
	return entire
}

func checkCancel(t *testing.T, x, y api.Interval) {
	t.Helper()
	is(t, rev.CancelMinus(x, y), wantCancelMinus(x, y), "CancelMinus(%x, %x)", x, y)
	is(t, rev.CancelPlus(x, y), wantCancelMinus(x, iv(-y.Hi, -y.Lo)), "CancelPlus(%x, %x)", x, y)
}

func TestCancel(t *testing.T) {
	const g, e = greatest, 0x1p-52
	for _, c := range []struct{ x, y, want api.Interval }{
		// The same width.
		{iv(1, 3), iv(5, 7), iv(-4, -4)},
		{iv(1, 3), iv(1, 3), at(0)},
		{at(1), at(least), iv(1-e/2, 1)},
		{at(1), at(-least), iv(1, 1+e)},
		{iv(-g, g), iv(-g, g), at(0)},
		{at(g), at(-g), iv(g, inf)},
		{at(-g), at(g), iv(-inf, -g)},
		// Widths that differ by less than two neighbouring numbers do.
		{iv(-least, 1), iv(0, 1), iv(-least, 0)},
		{iv(0, 1), iv(-least, 1), entire},
		{iv(least, 1), iv(0, 1), entire},
		{iv(0, 1), iv(least, 1), iv(-least, 0)},
		{iv(-1, least), iv(-1, 0), iv(0, least)},
		{iv(-1, 0), iv(-1, least), entire},
		{iv(0x1p60, 0x1p61), iv(1, 0x1p60), iv(0x1p60-128, 0x1p60)},
		{iv(1, 0x1p60), iv(0x1p60, 0x1p61), entire},
		{iv(0.1, 0.3), iv(0.2, 0.4), entire}, // as they stand in binary64, 0.4 - 0.2 is greater
		// Beyond the greatest number.
		{iv(-g, g), iv(-below(g), g), iv(-0x1p971, 0)},
		{iv(-below(g), g), iv(-g, g), entire},
		{iv(-g, g), iv(-0x1p1023, 0x1p1023), iv(-(g - 0x1p1023), g-0x1p1023)},
		{iv(-0x1p1023, 0x1p1023), iv(-g, g), entire},
		{iv(-g, g), iv(0, 1), iv(-g, g)},
		{iv(-g, g), iv(-1, 0), iv(-g, g)},
		{iv(-g, g), iv(1, 2), iv(-inf, g)},
		{iv(-g, g), iv(-2, -1), iv(-g, inf)},
		// Ends that are no numbers, and Empty.
		{iv(1, inf), iv(1, 2), entire},
		{iv(-inf, 1), iv(1, 2), entire},
		{iv(1, 2), iv(1, inf), entire},
		{iv(1, 2), iv(-inf, 1), entire},
		{entire, entire, entire},
		{empty, empty, empty},
		{empty, at(0), empty},
		{empty, iv(0, inf), entire},
		{empty, iv(-inf, 0), entire},
		{empty, entire, entire},
		{at(0), empty, entire},
		{entire, empty, entire},
		{iv(2, 1), iv(nan, 1), empty},
		{iv(2, 1), iv(1, 2), empty},
		{iv(signed, 0), iv(0, signed), at(0)},
	} {
		is(t, rev.CancelMinus(c.x, c.y), c.want, "CancelMinus(%x, %x)", c.x, c.y)
		checkCancel(t, c.x, c.y)
	}
}

func TestCancelOfAll(t *testing.T) {
	eachList(2, crossed(edges()), func(list []api.Interval) { checkCancel(t, list[0], list[1]) })
	d := dice(10011)
	for range 10000 {
		x := d.interval()
		checkCancel(t, x, d.interval())
		checkCancel(t, d.wild(), d.wild())
		// Widths that are nearly the same.
		by := d.number()
		checkCancel(t, x, ordered(d.beside(x.Lo+by), d.beside(x.Hi+by)))
		checkCancel(t, x, iv(d.beside(-x.Hi), d.beside(-x.Lo)))
		checkCancel(t, x, iv(d.beside(x.Lo), d.beside(x.Hi)))
	}
}
