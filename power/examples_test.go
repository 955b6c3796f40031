package power_test

import (
	"testing"

	"verge/api"
	"verge/power"
)

type row struct {
	call      string
	got, want api.Interval
}

func checkRows(t *testing.T, rows []row) {
	t.Helper()
	for _, c := range rows {
		is(t, c.got, c.want, "%s", c.call)
	}
}

// The rows of the chapter's examples.

func TestExamplesOfPowers(t *testing.T) {
	const g, s = greatest, least
	checkRows(t, []row{
		{"Pown({-2, 3}, 2)", power.Pown(iv(-2, 3), 2), iv(0, 9)},
		{"Pown({-2, 3}, 3)", power.Pown(iv(-2, 3), 3), iv(-8, 27)},
		{"Pown({-3, -2}, 2)", power.Pown(iv(-3, -2), 2), iv(4, 9)},
		{"Pown({-2, 3}, 0)", power.Pown(iv(-2, 3), 0), iv(1, 1)},
		{"Pown(Entire, 0)", power.Pown(entire, 0), iv(1, 1)},
		{"Pown({2, 4}, -1)", power.Pown(iv(2, 4), -1), iv(0.25, 0.5)},
		{"Pown({0, 4}, -1)", power.Pown(iv(0, 4), -1), iv(0.25, inf)},
		{"Pown({-2, 4}, -1)", power.Pown(iv(-2, 4), -1), entire},
		{"Pown({-2, 4}, -2)", power.Pown(iv(-2, 4), -2), iv(0.0625, inf)},
		{"Pown({0, 0}, -2)", power.Pown(iv(0, 0), -2), empty},
		{"Pown({-4, 0}, -3)", power.Pown(iv(-4, 0), -3), iv(-inf, -0.015625)},
		{"Pown({2, +Inf}, -2)", power.Pown(iv(2, inf), -2), iv(0, 0.25)},
		{"Pown({-Inf, -2}, 3)", power.Pown(iv(-inf, -2), 3), iv(-inf, -8)},
		{"Pown({10, 10}, 400)", power.Pown(iv(10, 10), 400), iv(g, inf)},
		{"Pown({t, t}, 2)", power.Pown(iv(s, s), 2), iv(0, s)},
		{"Pown({-t, t}, 3)", power.Pown(iv(-s, s), 3), iv(-s, s)},
		{"Pown({0.1, 0.1}, 2)", power.Pown(iv(0.1, 0.1), 2), iv(0x1.47ae147ae147bp-7, 0x1.47ae147ae147cp-7)},
		{"Pown({1, 2}, 1025)", power.Pown(iv(1, 2), 1025), entire},
		{"Pown(Empty, 1025)", power.Pown(empty, 1025), empty},
		{"Pown({1, 1}, -2000)", power.Pown(iv(1, 1), -2000), entire},
	})
}

func TestExamplesOfTheOthers(t *testing.T) {
	checkRows(t, []row{
		{"Abs({-3, 2})", power.Abs(iv(-3, 2)), iv(0, 3)},
		{"Abs({-3, -2})", power.Abs(iv(-3, -2)), iv(2, 3)},
		{"Abs({-Inf, 1})", power.Abs(iv(-inf, 1)), iv(0, inf)},
		{"Min({1, 4}, {2, 3})", power.Min(iv(1, 4), iv(2, 3)), iv(1, 3)},
		{"Max({1, 4}, {2, 3})", power.Max(iv(1, 4), iv(2, 3)), iv(2, 4)},
		{"Max({1, 2}, Empty)", power.Max(iv(1, 2), empty), empty},
	})
}

func TestExamplesOfSteps(t *testing.T) {
	const g, s, half, whole = greatest, least, 0x1.fffffffffffffp-2, 0x1.0000000000001p+52
	checkRows(t, []row{
		{"Sign({-3, 2})", power.Sign(iv(-3, 2)), iv(-1, 1)},
		{"Sign({0, 0})", power.Sign(iv(0, 0)), iv(0, 0)},
		{"Sign({0, +Inf})", power.Sign(iv(0, inf)), iv(0, 1)},
		{"Sign({-t, -t})", power.Sign(iv(-s, -s)), iv(-1, -1)},
		{"Floor({-0.5, 1.5})", power.Floor(iv(-0.5, 1.5)), iv(-1, 1)},
		{"Ceil({-0.5, 1.5})", power.Ceil(iv(-0.5, 1.5)), iv(0, 2)},
		{"Trunc({-1.5, 1.5})", power.Trunc(iv(-1.5, 1.5)), iv(-1, 1)},
		{"Floor({-Inf, 2.5})", power.Floor(iv(-inf, 2.5)), iv(-inf, 2)},
		{"RoundEven({0.5, 2.5})", power.RoundEven(iv(0.5, 2.5)), iv(0, 2)},
		{"RoundAway({0.5, 2.5})", power.RoundAway(iv(0.5, 2.5)), iv(1, 3)},
		{"RoundEven({-0.5, 1.5})", power.RoundEven(iv(-0.5, 1.5)), iv(0, 2)},
		{"RoundAway({-2.5, -0.5})", power.RoundAway(iv(-2.5, -0.5)), iv(-3, -1)},
		{"RoundAway just below a half", power.RoundAway(iv(half, half)), iv(0, 0)},
		{"RoundEven({g, +Inf})", power.RoundEven(iv(g, inf)), iv(g, inf)},
		{"RoundAway of a great whole number", power.RoundAway(iv(whole, whole)), iv(whole, whole)},
	})
}
