package rel_test

import (
	"testing"

	"verge/api"
	"verge/rel"
)

// P9.5

type cutting struct {
	x api.Interval // valid
	c float64
}

func checkCuts(t *testing.T, cuttings []cutting) {
	t.Helper()
	for _, k := range cuttings {
		l, r, ok := rel.Bisect(k.x)
		holds(t, ok, true, "Bisect(%x): ok", k.x)
		is(t, l, iv(k.x.Lo, k.c), "Bisect(%x): l", k.x)
		is(t, r, iv(k.c, k.x.Hi), "Bisect(%x): r", k.x)
	}
}

// checkWhole: they are not cut.
func checkWhole(t *testing.T, list ...api.Interval) {
	t.Helper()
	for _, x := range list {
		l, r, ok := rel.Bisect(x)
		holds(t, ok, false, "Bisect(%x): ok", x)
		is(t, l, iv(0, 0), "Bisect(%x): l", x)
		is(t, r, iv(0, 0), "Bisect(%x): r", x)
	}
}

func TestNotCut(t *testing.T) {
	checkWhole(t, empty, iv(2, 1), iv(nan, 1), iv(1, nan), iv(nan, nan), iv(inf, inf), iv(-inf, -inf), iv(inf, 1), iv(1, -inf))
	checkWhole(t, iv(0, 0), iv(signed, 0), iv(0, signed), iv(signed, signed), iv(-3, -3), iv(greatest, greatest), iv(least, least))
	checkWhole(t, iv(greatest, inf), iv(-inf, -greatest))
	for _, lo := range append(some(), signed, 0) {
		checkWhole(t, iv(lo, lo), iv(lo, above(lo)), iv(below(lo), lo))
	}
}

func TestCutInTheMiddle(t *testing.T) {
	const g, top = greatest, 0x1p1023
	checkCuts(t, []cutting{
		{iv(1, 4), 2.5},
		{iv(-1, 3), 1},
		{iv(-4, -1), -2.5},
		{iv(-1, 1), 0},
		{iv(-least, least), 0},
		{iv(-least, 2*least), 0},
		{iv(-2*least, least), 0},
		{iv(-3*least, least), -least},
		{iv(0, 3*least), 2 * least},
		{iv(1, above(above(1))), above(1)},
		{iv(below(1), above(1)), 1},
		{iv(below(below(1)), 1), below(1)},
		{iv(-g, g), 0},
		{iv(-g, below(g)), -0x1p970},
		{iv(top, g), 0x1.8p1023},
		{iv(-g, -top), -0x1.8p1023},
		{iv(below(below(g)), g), below(g)},
		{iv(-g, above(above(-g))), above(-g)},
		{iv(below(top), above(top)), top},
		{iv(0, g), g / 2},
		{iv(-g, 0), -g / 2},
	})
}

func TestCutByPlaces(t *testing.T) {
	const g = greatest
	checkCuts(t, []cutting{
		{entire, 0},
		{iv(0, inf), 1.5},
		{iv(-inf, 0), -1.5},
		{iv(-inf, -1), -0x1p512},
		{iv(-inf, 1), -0x1p-511},
		{iv(-1, inf), 0x1p-511},
		// Half of an odd sum is rounded toward below.
		{iv(least, inf), 1.5},
		{iv(-least, inf), below(1.5)},
		{iv(-inf, least), -1.5},
		{iv(-inf, -least), below(-1.5)},
		{iv(above(1), inf), 0x1p512},
		{iv(-inf, below(-1)), below(-0x1p512)},
		// Just one number between the ends, or two.
		{iv(below(g), inf), g},
		{iv(below(below(g)), inf), below(g)},
		{iv(-inf, above(-g)), -g},
		{iv(-inf, above(above(-g))), -g},
		// From one infinity to the numbers before the other.
		{iv(-g, inf), 0},
		{iv(above(-g), inf), least},
		{iv(-inf, g), -least},
		{iv(-inf, below(g)), -least},
	})
}

// An end -0 is read as 0.
func TestCutOfSignedNoughts(t *testing.T) {
	for _, c := range []struct{ x, l, r api.Interval }{
		{iv(signed, 2), iv(0, 1), iv(1, 2)},
		{iv(-2, signed), iv(-2, -1), iv(-1, 0)},
		{iv(signed, inf), iv(0, 1.5), iv(1.5, inf)},
		{iv(-inf, signed), iv(-inf, -1.5), iv(-1.5, 0)},
	} {
		l, r, ok := rel.Bisect(c.x)
		holds(t, ok, true, "Bisect(%v): ok", c.x)
		is(t, l, c.l, "Bisect(%v): l", c.x)
		is(t, r, c.r, "Bisect(%v): r", c.x)
	}
}

func TestCutOfNeighbours(t *testing.T) {
	for _, lo := range append(some(), -inf, 0) {
		for hi, n := lo, 0; n < 6 && hi < inf; hi, n = above(hi), n+1 {
			checkBisect(t, iv(lo, hi))
		}
	}
	for _, hi := range append(some(), inf) {
		for lo, n := hi, 0; n < 6 && lo > -inf; lo, n = below(lo), n+1 {
			checkBisect(t, iv(lo, hi))
		}
	}
}

// Cut again and again, an interval comes down to neighbours.
func TestCutToTheEnd(t *testing.T) {
	d := dice(9007)
	for range 40 {
		x, n := d.interval(), 0
		for ; n < 3000; n++ {
			checkBisect(t, x)
			l, r, ok := rel.Bisect(x)
			if !ok {
				break
			}
			x = l
			if d.below(2) == 0 {
				x = r
			}
		}
		if n == 3000 {
			t.Errorf("%x is cut again and again", x)
		}
	}
}
