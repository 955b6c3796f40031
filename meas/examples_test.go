package meas_test

import (
	"testing"

	"verge/api"
	"verge/meas"
)

// The rows of the chapter's examples.

type example struct {
	x                       api.Interval
	mid, rad, wid, mag, mig float64
}

func checkExamples(t *testing.T, rows []example) {
	t.Helper()
	for _, c := range rows {
		mid, rad := meas.MidRad(c.x)
		is(t, meas.Mid(c.x), c.mid, "Mid(%x)", c.x)
		is(t, mid, c.mid, "MidRad(%x): mid", c.x)
		is(t, meas.Rad(c.x), c.rad, "Rad(%x)", c.x)
		is(t, rad, c.rad, "MidRad(%x): rad", c.x)
		is(t, meas.Wid(c.x), c.wid, "Wid(%x)", c.x)
		is(t, meas.Mag(c.x), c.mag, "Mag(%x)", c.x)
		is(t, meas.Mig(c.x), c.mig, "Mig(%x)", c.x)
	}
}

func TestExamples(t *testing.T) {
	const g, s = greatest, least
	checkExamples(t, []example{
		{empty, nan, nan, nan, nan, nan},
		{entire, 0, inf, inf, inf, 0},
		{iv(1, inf), g, inf, inf, inf, 1},
		{iv(-inf, -1), -g, inf, inf, inf, 1},
		{iv(1, 3), 2, 1, 2, 3, 1},
		{iv(-1, 3), 1, 2, 4, 3, 0},
		{iv(-g, g), 0, g, inf, g, 0},
		{iv(g, g), g, 0, 0, g, g},
		{iv(0, s), 0, s, s, s, 0},
		{iv(s, 2*s), 2 * s, s, s, 2 * s, s},
		{iv(1, 1+0x1p-52), 1, 0x1p-52, 0x1p-52, 1 + 0x1p-52, 1},
		{iv(-s, 1), 0.5, 0.5 + 0x1p-53, 1 + 0x1p-52, 1, 0},
		{iv(nan, 1), nan, nan, nan, nan, nan},
	})
}

func TestExamplesOfDist(t *testing.T) {
	is(t, meas.Dist(iv(1, 2), iv(1.5, 4)), 2, "Dist({1, 2}, {1.5, 4})")
	is(t, meas.Dist(iv(1, inf), iv(3, inf)), 2, "Dist({1, +Inf}, {3, +Inf})")
	is(t, meas.Dist(iv(1, 2), iv(1, inf)), inf, "Dist({1, 2}, {1, +Inf})")
	is(t, meas.Dist(entire, entire), 0, "Dist(Entire, Entire)")
	is(t, meas.Dist(empty, iv(1, 2)), nan, "Dist(Empty, {1, 2})")
}

func TestExamplesOfEnds(t *testing.T) {
	is(t, meas.Inf(empty), inf, "Inf(Empty)")
	is(t, meas.Sup(empty), -inf, "Sup(Empty)")
	is(t, meas.Inf(iv(signed, 1)), 0, "Inf({-0, 1})")
}
