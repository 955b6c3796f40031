package rev_test

import (
	"math"
	"testing"

	"verge/api"
	"verge/rev"
)

// P10.1, squares, roots, magnitudes and powers.

const rootTwo, overRootTwo = 0x1.6a09e667f3bccp+0, 0x1.6a09e667f3bcdp+0

func TestSquaresAndRoots(t *testing.T) {
	checkRows(t, []row{
		{"v v = 2", rev.SqrRev(at(2), entire), iv(-overRootTwo, overRootTwo)},
		{"v v = 2 up to the lower number", rev.SqrRev(at(2), iv(0, rootTwo)), empty},
		{"v v = 2 from the upper number on", rev.SqrRev(at(2), iv(overRootTwo, 2)), empty},
		{"v v = 2 between the two", rev.SqrRev(at(2), iv(rootTwo, overRootTwo)), iv(rootTwo, overRootTwo)},
		{"v v = 2 within the gap", rev.SqrRev(at(2), iv(-rootTwo, rootTwo)), empty},
		{"v v = 2 below 0", rev.SqrRev(at(2), iv(-2, rootTwo)), iv(-overRootTwo, -rootTwo)},
		{"v v = 4 up to 2", rev.SqrRev(at(4), iv(0, 2)), at(2)},
		{"v v = 4 up to -2", rev.SqrRev(at(4), iv(-9, -2)), at(-2)},
		{"v v = 0", rev.SqrRev(at(0), entire), at(0)},
		{"v v = -0", rev.SqrRev(at(signed), iv(signed, signed)), at(0)},
		{"v v up to 0", rev.SqrRev(iv(-3, 0), iv(0, 1)), at(0)},
		{"v v from 0 on", rev.SqrRev(iv(0, inf), iv(-1, 3)), iv(-1, 3)},
		{"v v = t", rev.SqrRev(at(least), entire), iv(-0x1p-537, 0x1p-537)},
		{"v v = g", rev.SqrRev(at(g), iv(0, inf)), iv(below(0x1p512), 0x1p512)},
		{"v v = g up to below 2^512", rev.SqrRev(at(g), iv(0, below(0x1p512))), empty},
		{"v v from g on", rev.SqrRev(iv(g, inf), iv(0, inf)), iv(below(0x1p512), inf)},
		{"root of v = 1/3, below it", rev.SqrtRev(at(third), entire), iv(0x1.c71c71c71c71bp-4, 0x1.c71c71c71c71cp-4)},
		{"root of v = 3", rev.SqrtRev(at(3), iv(9, 10)), at(9)},
		{"root of v = 3 beside 9", rev.SqrtRev(at(3), iv(above(9), 10)), empty},
		{"root of v = t", rev.SqrtRev(at(least), entire), iv(0, least)},
		{"root of v = t up to 0", rev.SqrtRev(at(least), iv(-1, 0)), empty},
		{"root of v = t from t on", rev.SqrtRev(at(least), iv(least, 1)), empty},
		{"root of v = 0", rev.SqrtRev(at(0), entire), at(0)},
		{"root of v up to 0", rev.SqrtRev(iv(-inf, 0), iv(-5, 5)), at(0)},
		{"root of v any", rev.SqrtRev(entire, iv(-5, 5)), iv(0, 5)},
		{"root of v any, v below 0", rev.SqrtRev(entire, iv(-5, -least)), empty},
		{"root of v = g", rev.SqrtRev(at(g), entire), iv(g, inf)},
		{"root of v = g, v up to g", rev.SqrtRev(at(g), iv(0, g)), empty},
		{"|v| = 1", rev.AbsRev(at(1), iv(-1, 0)), at(-1)},
		{"|v| = 1 in the gap", rev.AbsRev(at(1), iv(-below(1), below(1))), empty},
		{"|v| from -3 to 2", rev.AbsRev(iv(-3, 2), entire), iv(-2, 2)},
		{"|v| below 0", rev.AbsRev(iv(-3, -least), entire), empty},
		{"|v| = -0", rev.AbsRev(at(signed), iv(signed, 1)), at(0)},
		{"|v| from 2 on", rev.AbsRev(iv(2, inf), iv(-1, 3)), iv(2, 3)},
		{"-v = 0", rev.NegRev(at(0), entire), at(0)},
		{"-v from 1 on", rev.NegRev(iv(1, inf), iv(-3, 3)), iv(-3, -1)},
		{"-v = 1 at -1", rev.NegRev(at(1), iv(-1, 3)), at(-1)},
	})
}

func TestPowers(t *testing.T) {
	const rootThree = 0x1.bb67ae8584caap+0 // the lower number about it
	type power struct {
		n          int
		c, x, want api.Interval
	}
	for _, p := range []power{
		{3, at(8), entire, at(2)},
		{3, at(-8), iv(-2, 0), at(-2)},
		{3, at(-8), iv(0, 2), empty},
		{3, iv(-8, -1), entire, iv(-2, -1)},
		{3, at(0), entire, at(0)},
		{3, iv(0, 8), iv(-5, 0), at(0)},
		{3, iv(least, 8), iv(-5, 0), empty},
		{3, entire, iv(-5, 7), iv(-5, 7)},
		{4, iv(16, 81), entire, iv(-3, 3)},
		{4, iv(16, 81), iv(-1, 5), iv(2, 3)},
		{4, iv(-16, -1), entire, empty},
		{4, iv(-16, 0), entire, at(0)},
		{-1, iv(1, inf), iv(-1, 0), empty},
		{-2, at(4), entire, iv(-0.5, 0.5)},
		{-2, at(4), iv(0, 0.5), at(0.5)},
		{-2, iv(-4, 4), iv(-1, 0.25), iv(-1, -0.5)},
		{-2, iv(-4, 0), entire, empty},
		{-2, at(0), entire, empty},
		{-2, iv(0, 4), iv(-0.25, 0.25), empty},
		{-2, iv(1, inf), at(0), empty},
		{-2, iv(1, inf), iv(0, 5), iv(0, 1)},
		{-2, iv(1, inf), iv(-5, 0), iv(-1, 0)},
		{-2, entire, at(0), empty},
		{-2, at(1. / 3), iv(0, inf), iv(rootThree, above(rootThree))}, // 1/3 is rounded, its inverse's root isn't 3's
		{-3, iv(-8, -1), entire, iv(-1, -0.5)},
		{-3, iv(-8, 1), iv(-5, 5), iv(-5, 5)},
		{-3, iv(-8, 1), iv(-0.25, 0.5), empty},
		{-3, iv(-8, 1), iv(-0.5, 0.5), at(-0.5)},
		{-3, iv(1, inf), iv(-5, 0), empty},
		{-3, iv(1, inf), iv(-5, 1), iv(0, 1)},
		{-3, iv(-inf, -1), iv(-5, 5), iv(-1, 0)},
		{-3, iv(-inf, -1), iv(0, 5), empty},
		{-3, at(0), entire, empty},
		{-3, entire, at(0), empty},
		{-3, entire, iv(0, 1), iv(0, 1)},
		{-3, iv(0, 1), entire, iv(1, inf)},
		{-3, iv(-1, 0), entire, iv(-inf, -1)},
		{0, at(1), entire, entire},
		{0, iv(-inf, 1), at(0), at(0)},
		{0, iv(above(1), 2), entire, empty},
		{0, iv(0, below(1)), entire, empty},
		{1, iv(-3, 5), iv(2, 9), iv(2, 5)},
		{1024, iv(0, 1), entire, iv(-1, 1)},
		{1024, at(1), iv(0, 5), at(1)},
		{1024, at(1), iv(above(1), 5), empty},
		{1023, at(-1), entire, at(-1)},
		{1024, iv(g, inf), iv(0, 2), iv(below(2), 2)},
		{1024, iv(1, g), iv(2, 3), empty},
		{-1024, at(1), entire, iv(-1, 1)},
		{-1024, at(1), iv(0, below(1)), empty},
		{-1024, iv(1, inf), iv(0, 5), iv(0, 1)},
		{-1023, iv(-inf, -1), iv(-5, 5), iv(-1, 0)},
		{-1024, iv(0, 1), iv(0, 5), iv(1, 5)},
	} {
		is(t, rev.PownRev(p.n, p.c, p.x), p.want, "PownRev(%d, %x, %x)", p.n, p.c, p.x)
		powerRev(p.n).check(t, p.x, p.c)
	}
}

// Beyond MaxPow x is told as it is read, whatever c is.
func TestPowersBeyond(t *testing.T) {
	for _, n := range []int{api.MaxPow + 1, -api.MaxPow - 1, api.MaxPow + 2, -api.MaxPow - 2, math.MaxInt, math.MinInt, math.MaxInt - 1, math.MinInt + 1, math.MaxInt32, math.MinInt32} {
		for _, x := range crossed(edges()) {
			for _, c := range []api.Interval{empty, entire, at(0), iv(2, 3), iv(nan, 1)} {
				is(t, rev.PownRev(n, c, x), read(x), "PownRev(%d, %x, %x)", n, c, x)
			}
		}
	}
}

// tried hands c of all kinds, and x that may touch what is left, to check.
func (d *dice) tried(t *testing.T, f call, c api.Interval) {
	t.Helper()
	others := []api.Interval{c}
	f.check(t, entire, c)
	ends := f.ends(others)
	for range 2 {
		if len(ends) > 0 {
			end := ends[d.below(len(ends))]
			f.check(t, iv(end, end), c)
			f.check(t, d.touching(end), c)
		}
	}
	f.check(t, d.touching(0), c)
}

func TestAllPowers(t *testing.T) {
	d := dice(10020)
	for n := -300; n <= 300; n++ {
		if n%16 < 2 || n > -20 && n < 20 {
			d.tried(t, powerRev(n), d.interval())
		}
	}
	for _, n := range []int{-700, -513, 512, 901} {
		d.tried(t, powerRev(n), d.interval())
	}
	for _, n := range []int{-7, -6, -5, -4, -3, -2, -1, 0, 1, 2, 3, 4, 5, 6, 7} {
		for _, c := range crossed(edges()) {
			d.tried(t, powerRev(n), c)
		}
	}
	for _, n := range []int{-api.MaxPow, 1 - api.MaxPow, api.MaxPow - 1, api.MaxPow} {
		for _, c := range []api.Interval{empty, entire, iv(0, inf), iv(-inf, 0), iv(0, 1), iv(1, inf), iv(-3, 2), iv(0.1, 0.1), iv(least, g)} {
			d.tried(t, powerRev(n), c)
		}
	}
}

// Roots of inverses, rounded once: the guess may lie beside, on each side.
func TestRootsOfInverses(t *testing.T) {
	d := dice(10021)
	for range 2500 {
		n := -2 - d.below(20)
		c := math.Abs(d.number())
		powerRev(n).check(t, iv(0, inf), ordered(c, d.beside(c)))
	}
	for k := -1074; k < 1024; k += 3 {
		n := -2 - d.below(6)
		powerRev(n).check(t, iv(0, inf), at(math.Ldexp(1, k)))
	}
}
