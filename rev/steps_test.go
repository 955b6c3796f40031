package rev_test

import (
	"testing"

	"verge/api"
	"verge/rev"
)

// P10.1, the steps.

func TestStepsAtTheirEnds(t *testing.T) {
	checkRows(t, []row{
		{"FloorRev([1, 1], [1, 9])", rev.FloorRev(at(1), iv(1, 9)), iv(1, 2)},
		{"FloorRev([1, 1], [-9, 1])", rev.FloorRev(at(1), iv(-9, 1)), at(1)},
		{"FloorRev([1, 1], below 1)", rev.FloorRev(at(1), iv(-9, below(1))), empty},
		{"FloorRev([1, 1], below 2)", rev.FloorRev(at(1), iv(below(2), 9)), iv(below(2), 2)},
		{"FloorRev([-1, -1], [0, 9])", rev.FloorRev(at(-1), iv(0, 9)), empty},
		{"FloorRev([-1, -1], Entire)", rev.FloorRev(at(-1), entire), iv(-1, 0)},
		{"FloorRev([0, 0], [-1, 0])", rev.FloorRev(at(0), iv(-1, 0)), at(0)},
		{"FloorRev([-0.5, 0.5], Entire)", rev.FloorRev(iv(-0.5, 0.5), entire), iv(0, 1)},
		{"CeilRev([1, 1], [0, 9])", rev.CeilRev(at(1), iv(0, 9)), iv(0, 1)},
		{"CeilRev([1, 1], [-9, 0])", rev.CeilRev(at(1), iv(-9, 0)), empty},
		{"CeilRev([1, 1], [1, 9])", rev.CeilRev(at(1), iv(1, 9)), at(1)},
		{"CeilRev([0, 0], [-9, -1])", rev.CeilRev(at(0), iv(-9, -1)), empty},
		{"CeilRev([-0.5, 0.5], Entire)", rev.CeilRev(iv(-0.5, 0.5), entire), iv(-1, 0)},
		{"TruncRev([0, 0], [-9, -1])", rev.TruncRev(at(0), iv(-9, -1)), empty},
		{"TruncRev([0, 0], [1, 9])", rev.TruncRev(at(0), iv(1, 9)), empty},
		{"TruncRev([1, 1], Entire)", rev.TruncRev(at(1), entire), iv(1, 2)},
		{"TruncRev([1, 1], [2, 9])", rev.TruncRev(at(1), iv(2, 9)), empty},
		{"TruncRev([1, 1], [-9, 1])", rev.TruncRev(at(1), iv(-9, 1)), at(1)},
		{"TruncRev([-1, -1], Entire)", rev.TruncRev(at(-1), entire), iv(-2, -1)},
		{"TruncRev([-1, -1], [-9, -2])", rev.TruncRev(at(-1), iv(-9, -2)), empty},
		{"TruncRev([-1, -1], [-1, 9])", rev.TruncRev(at(-1), iv(-1, 9)), at(-1)},
		{"TruncRev([-0.5, 0.5], Entire)", rev.TruncRev(iv(-0.5, 0.5), entire), iv(-1, 1)},
		{"RoundEvenRev([0, 0], [0.5, 9])", rev.RoundEvenRev(at(0), iv(0.5, 9)), at(0.5)},
		{"RoundEvenRev([0, 0], [-9, -0.5])", rev.RoundEvenRev(at(0), iv(-9, -0.5)), at(-0.5)},
		{"RoundEvenRev([0, 0], above 0.5)", rev.RoundEvenRev(at(0), iv(above(0.5), 9)), empty},
		{"RoundEvenRev([1, 1], Entire)", rev.RoundEvenRev(at(1), entire), iv(0.5, 1.5)},
		{"RoundEvenRev([1, 1], [-9, 0.5])", rev.RoundEvenRev(at(1), iv(-9, 0.5)), empty},
		{"RoundEvenRev([-1, -1], [-9, -1.5])", rev.RoundEvenRev(at(-1), iv(-9, -1.5)), empty},
		{"RoundEvenRev([-2, -2], [-1.5, 9])", rev.RoundEvenRev(at(-2), iv(-1.5, 9)), at(-1.5)},
		{"RoundEvenRev([2, 2], [2.5, 9])", rev.RoundEvenRev(at(2), iv(2.5, 9)), at(2.5)},
		{"RoundAwayRev([0, 0], Entire)", rev.RoundAwayRev(at(0), entire), iv(-0.5, 0.5)},
		{"RoundAwayRev([0, 0], [-9, -0.5])", rev.RoundAwayRev(at(0), iv(-9, -0.5)), empty},
		{"RoundAwayRev([0, 0], [0.5, 9])", rev.RoundAwayRev(at(0), iv(0.5, 9)), empty},
		{"RoundAwayRev([2, 2], [2.5, 9])", rev.RoundAwayRev(at(2), iv(2.5, 9)), empty},
		{"RoundAwayRev([2, 2], [1, 1.5])", rev.RoundAwayRev(at(2), iv(1, 1.5)), at(1.5)},
		{"RoundAwayRev([-2, -2], [-1.5, 9])", rev.RoundAwayRev(at(-2), iv(-1.5, 9)), at(-1.5)},
		{"RoundAwayRev([-2, -2], [-9, -2.5])", rev.RoundAwayRev(at(-2), iv(-9, -2.5)), empty},
		{"SignRev([0, 0], Entire)", rev.SignRev(at(0), entire), at(0)},
		{"SignRev([0, 0], [t, 9])", rev.SignRev(at(0), iv(least, 9)), empty},
		{"SignRev([-1, -1], [0, 5])", rev.SignRev(at(-1), iv(0, 5)), empty},
		{"SignRev([-1, -1], [-5, 5])", rev.SignRev(at(-1), iv(-5, 5)), iv(-5, 0)},
		{"SignRev([-1, 0], Entire)", rev.SignRev(iv(-1, 0), entire), iv(-inf, 0)},
		{"SignRev([0, 1], [-5, 5])", rev.SignRev(iv(0, 1), iv(-5, 5)), iv(0, 5)},
		{"SignRev([-1, 1], [-5, 5])", rev.SignRev(iv(-1, 1), iv(-5, 5)), iv(-5, 5)},
		{"SignRev([-9, -2], Entire)", rev.SignRev(iv(-9, -2), entire), empty},
		{"SignRev([1, +Inf], Entire)", rev.SignRev(iv(1, inf), entire), iv(0, inf)},
		{"SignRev(above 1, Entire)", rev.SignRev(iv(above(1), inf), entire), empty},
		{"SignRev(from -0.5 to 0.5, [1, 2])", rev.SignRev(iv(-0.5, 0.5), iv(1, 2)), empty},
	})
}

// Where the numbers lie farther from each other than whole ones, or halves, do.
func TestStepsOfGreatNumbers(t *testing.T) {
	const m = 0x1p53
	checkRows(t, []row{
		{"FloorRev(2^53, from 2^53 + 2 on)", rev.FloorRev(at(m), iv(m+2, inf)), empty},
		{"FloorRev(2^53 - 1, Entire)", rev.FloorRev(at(m-1), entire), iv(m-1, m)},
		{"FloorRev(-2^53 - 2, Entire)", rev.FloorRev(at(-m-2), entire), iv(-m-2, -m)},
		{"FloorRev(-2^53 - 2, from -2^53 on)", rev.FloorRev(at(-m-2), iv(-m, 0)), empty},
		{"CeilRev(2^53 + 2, Entire)", rev.CeilRev(at(m+2), entire), iv(m, m+2)},
		{"CeilRev(2^53 + 2, up to 2^53)", rev.CeilRev(at(m+2), iv(0, m)), empty},
		{"CeilRev(-2^53, Entire)", rev.CeilRev(at(-m), entire), iv(-m-2, -m)},
		{"TruncRev(2^53, Entire)", rev.TruncRev(at(m), entire), iv(m, m+2)},
		{"TruncRev(-2^53, Entire)", rev.TruncRev(at(-m), entire), iv(-m-2, -m)},
		{"RoundEvenRev(2^52, Entire)", rev.RoundEvenRev(at(m/2), entire), iv(m/2-0.5, m/2+1)},
		{"RoundEvenRev(2^52, from 2^52 + 1 on)", rev.RoundEvenRev(at(m/2), iv(m/2+1, m)), empty},
		{"RoundEvenRev(2^52 + 1, Entire)", rev.RoundEvenRev(at(m/2+1), entire), iv(m/2, m/2+2)},
		{"RoundEvenRev(2^52 + 1, up to 2^52)", rev.RoundEvenRev(at(m/2+1), iv(0, m/2)), empty},
		{"RoundAwayRev(2^52, Entire)", rev.RoundAwayRev(at(m/2), entire), iv(m/2-0.5, m/2+1)},
		{"RoundAwayRev(2^52, up to 2^52 - 1/2)", rev.RoundAwayRev(at(m/2), iv(0, m/2-0.5)), at(m/2 - 0.5)},
		{"RoundEvenRev(2^53, up to 2^53 - 1)", rev.RoundEvenRev(at(m), iv(0, m-1)), empty},
		{"FloorRev(g, Entire)", rev.FloorRev(at(g), entire), iv(g, inf)},
		{"FloorRev(g, up to g)", rev.FloorRev(at(g), iv(0, g)), at(g)},
		{"CeilRev(g, Entire)", rev.CeilRev(at(g), entire), iv(below(g), g)},
		{"CeilRev(g, up to below g)", rev.CeilRev(at(g), iv(0, below(g))), empty},
		{"CeilRev(-g, Entire)", rev.CeilRev(at(-g), entire), iv(-inf, -g)},
		{"FloorRev(from 1 on, Entire)", rev.FloorRev(iv(0.5, inf), entire), iv(1, inf)},
		{"FloorRev(up to 1, Entire)", rev.FloorRev(iv(-inf, 1.5), entire), iv(-inf, 2)},
		{"TruncRev(Entire, Entire)", rev.TruncRev(entire, entire), entire},
		{"RoundAwayRev(up to -1, Entire)", rev.RoundAwayRev(iv(-inf, -0.5), entire), iv(-inf, -0.5)},
	})
}

// No whole number in c, then nothing.
func TestStepsOfFractions(t *testing.T) {
	for _, f := range steps() {
		for _, c := range []api.Interval{iv(0.25, 0.5), iv(least, below(1)), iv(-0.75, -0.25), iv(1.5, 1.5), iv(0x1p51+0.5, 0x1p51+0.5)} {
			is(t, f.got([]api.Interval{c}, entire), empty, "%s(%x, Entire)", f.name, c)
		}
	}
}

func TestStepsAtHalves(t *testing.T) {
	d := dice(10030)
	ends := halves()
	any := func() float64 { return ends[d.below(len(ends))] }
	for _, f := range steps() {
		for _, k := range ends {
			for range 6 {
				c := ordered(k, any())
				d.tried(t, f, c)
				f.check(t, ordered(any(), any()), c)
			}
			if c := at(k); read(c) != empty {
				d.tried(t, f, c)
			}
		}
	}
}
