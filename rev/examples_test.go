package rev_test

import (
	"testing"

	"verge/api"
	"verge/rev"
)

// The rows of the chapter's examples.

// row is a call of P10.1 with its arguments, x last, and its answer.
type row struct {
	name      string
	got, want api.Interval
}

func checkRows(t *testing.T, rows []row) {
	t.Helper()
	for _, r := range rows {
		is(t, r.got, r.want, "%s", r.name)
	}
}

func at(x float64) api.Interval { return iv(x, x) }

func TestExamplesOfTwo(t *testing.T) {
	const low, high = 0x1.5555555555555p-2, 0x1.5555555555556p-2 // about 1/3
	checkRows(t, []row{
		{"AddRev([1, 2], [5, 5], Entire)", rev.AddRev(iv(1, 2), at(5), entire), iv(3, 4)},
		{"AddRev([t, t], [1, 1], [1, 2])", rev.AddRev(at(least), at(1), iv(1, 2)), empty},
		{"AddRev([t, t], [1, 1], [0, 1])", rev.AddRev(at(least), at(1), iv(0, 1)), iv(1-0x1p-53, 1)},
		{"SubRev1([1, 2], [5, 5], Entire)", rev.SubRev1(iv(1, 2), at(5), entire), iv(6, 7)},
		{"SubRev2([5, 5], [1, 2], Entire)", rev.SubRev2(at(5), iv(1, 2), entire), iv(3, 4)},
		{"MulRev([0, 1], [0, 2], [7, 8])", rev.MulRev(iv(0, 1), iv(0, 2), iv(7, 8)), iv(7, 8)},
		{"MulRev([-1, 2], [1, 1], Entire)", rev.MulRev(iv(-1, 2), at(1), entire), entire},
		{"MulRev([-1, 2], [1, 1], [-0.5, 5])", rev.MulRev(iv(-1, 2), at(1), iv(-0.5, 5)), iv(0.5, 5)},
		{"MulRev([1, +Inf], [1, 1], [-5, 0])", rev.MulRev(iv(1, inf), at(1), iv(-5, 0)), empty},
		{"MulRev([1, +Inf], [1, 1], [0, 5])", rev.MulRev(iv(1, inf), at(1), iv(0, 5)), iv(0, 1)},
		{"MulRev([0, 0], [1, 2], Entire)", rev.MulRev(at(0), iv(1, 2), entire), empty},
		{"MulRev([0, 0], [0, 2], Entire)", rev.MulRev(at(0), iv(0, 2), entire), entire},
		{"MulRev([3, 3], [1, 1], [0, 1])", rev.MulRev(at(3), at(1), iv(0, 1)), iv(low, high)},
		{"DivRev1([0, 1], [1, 2], [-3, 0])", rev.DivRev1(iv(0, 1), iv(1, 2), iv(-3, 0)), empty},
		{"DivRev1([0, 1], [1, 2], [-3, 1])", rev.DivRev1(iv(0, 1), iv(1, 2), iv(-3, 1)), iv(0, 1)},
		{"DivRev1([0, 0], Entire, Entire)", rev.DivRev1(at(0), entire, entire), empty},
		{"DivRev2([0, 1], [0, 0], [0, 0])", rev.DivRev2(iv(0, 1), at(0), at(0)), empty},
		{"DivRev2([0, 1], [0, 0], [0, 5])", rev.DivRev2(iv(0, 1), at(0), iv(0, 5)), iv(0, 5)},
		{"DivRev2([1, 1], [2, +Inf], Entire)", rev.DivRev2(at(1), iv(2, inf), entire), iv(0, 0.5)},
		{"MinRev([1, 2], [2, 3], [-9, 9])", rev.MinRev(iv(1, 2), iv(2, 3), iv(-9, 9)), iv(2, 9)},
		{"MinRev([5, 6], [2, 3], [-9, 9])", rev.MinRev(iv(5, 6), iv(2, 3), iv(-9, 9)), iv(2, 3)},
		{"MinRev([1, 2], [3, 4], Entire)", rev.MinRev(iv(1, 2), iv(3, 4), entire), empty},
		{"MaxRev([1, 2], [0, 1], [-9, 9])", rev.MaxRev(iv(1, 2), iv(0, 1), iv(-9, 9)), iv(-9, 1)},
		{"MaxRev([1, 2], [3, 4], [-9, 9])", rev.MaxRev(iv(1, 2), iv(3, 4), iv(-9, 9)), iv(3, 4)},
		{"FMARev([2, 2], [1, 1], [5, 7], Entire)", rev.FMARev(at(2), at(1), iv(5, 7), entire), iv(2, 3)},
		{"FMARevAdd([2, 2], [3, 3], [5, 7], Entire)", rev.FMARevAdd(at(2), at(3), iv(5, 7), entire), iv(-1, 1)},
	})
}

func TestExamplesOfOne(t *testing.T) {
	checkRows(t, []row{
		{"RecipRev([0, 2], Entire)", rev.RecipRev(iv(0, 2), entire), iv(0.5, inf)},
		{"RecipRev([-1, 2], [-0.5, 1])", rev.RecipRev(iv(-1, 2), iv(-0.5, 1)), iv(0.5, 1)},
		{"SqrRev([4, 9], Entire)", rev.SqrRev(iv(4, 9), entire), iv(-3, 3)},
		{"SqrRev([4, 9], [0, 2.5])", rev.SqrRev(iv(4, 9), iv(0, 2.5)), iv(2, 2.5)},
		{"SqrRev([-4, -1], Entire)", rev.SqrRev(iv(-4, -1), entire), empty},
		{"SqrRev([2, 2], [1, 2])", rev.SqrRev(at(2), iv(1, 2)), iv(0x1.6a09e667f3bccp+0, 0x1.6a09e667f3bcdp+0)},
		{"SqrtRev([-2, 3], Entire)", rev.SqrtRev(iv(-2, 3), entire), iv(0, 9)},
		{"SqrtRev([-2, -1], Entire)", rev.SqrtRev(iv(-2, -1), entire), empty},
		{"AbsRev([1, 2], [-1.5, 1.5])", rev.AbsRev(iv(1, 2), iv(-1.5, 1.5)), iv(-1.5, 1.5)},
		{"AbsRev([1, 2], [0, 5])", rev.AbsRev(iv(1, 2), iv(0, 5)), iv(1, 2)},
		{"PownRev(3, [-8, 27], Entire)", rev.PownRev(3, iv(-8, 27), entire), iv(-2, 3)},
		{"PownRev(-2, [0.25, 1], Entire)", rev.PownRev(-2, iv(0.25, 1), entire), iv(-2, 2)},
		{"PownRev(0, [1, 1], [3, 4])", rev.PownRev(0, at(1), iv(3, 4)), iv(3, 4)},
		{"PownRev(0, [2, 3], [3, 4])", rev.PownRev(0, iv(2, 3), iv(3, 4)), empty},
		{"SignRev([1, 1], [-5, 0])", rev.SignRev(at(1), iv(-5, 0)), empty},
		{"SignRev([1, 1], [0, 5])", rev.SignRev(at(1), iv(0, 5)), iv(0, 5)},
		{"SignRev([0, 0.5], Entire)", rev.SignRev(iv(0, 0.5), entire), at(0)},
		{"SignRev([0.25, 0.5], Entire)", rev.SignRev(iv(0.25, 0.5), entire), empty},
		{"FloorRev([1, 2.5], Entire)", rev.FloorRev(iv(1, 2.5), entire), iv(1, 3)},
		{"FloorRev([1, 1], [2, 3])", rev.FloorRev(at(1), iv(2, 3)), empty},
		{"FloorRev([1.25, 1.75], Entire)", rev.FloorRev(iv(1.25, 1.75), entire), empty},
		{"CeilRev([1, 2.5], Entire)", rev.CeilRev(iv(1, 2.5), entire), iv(0, 2)},
		{"TruncRev([0, 0], Entire)", rev.TruncRev(at(0), entire), iv(-1, 1)},
		{"TruncRev([0, 0], [1, 2])", rev.TruncRev(at(0), iv(1, 2)), empty},
		{"RoundEvenRev([1, 1], [1.5, 2])", rev.RoundEvenRev(at(1), iv(1.5, 2)), empty},
		{"RoundEvenRev([2, 2], [1, 1.5])", rev.RoundEvenRev(at(2), iv(1, 1.5)), at(1.5)},
		{"RoundAwayRev([1, 1], [1.5, 2])", rev.RoundAwayRev(at(1), iv(1.5, 2)), empty},
		{"RoundAwayRev([1, 1], [0, 0.5])", rev.RoundAwayRev(at(1), iv(0, 0.5)), at(0.5)},
		{"FloorRev([2^53, 2^53], Entire)", rev.FloorRev(at(0x1p53), entire), iv(0x1p53, 0x1p53+2)},
	})
}

func TestExamplesOfPairs(t *testing.T) {
	checkPairs(t, []pair{
		{iv(-1, 2), at(1), iv(-inf, -1), iv(0.5, inf)},
		{iv(0, 2), at(1), iv(0.5, inf), empty},
		{iv(-1, 2), iv(0, 1), entire, empty},
		{at(0), at(1), empty, empty},
		{entire, iv(1, 2), iv(-inf, 0), iv(0, inf)},
	})
}

func TestExamplesOfCancel(t *testing.T) {
	checkRows(t, []row{
		{"CancelMinus([1, 5], [0, 2])", rev.CancelMinus(iv(1, 5), iv(0, 2)), iv(1, 3)},
		{"CancelMinus([0, 2], [1, 5])", rev.CancelMinus(iv(0, 2), iv(1, 5)), entire},
		{"CancelMinus(Empty, [1, 2])", rev.CancelMinus(empty, iv(1, 2)), empty},
		{"CancelMinus(Empty, Entire)", rev.CancelMinus(empty, entire), entire},
		{"CancelMinus([1, 2], Empty)", rev.CancelMinus(iv(1, 2), empty), entire},
		{"CancelPlus([1, 5], [0, 2])", rev.CancelPlus(iv(1, 5), iv(0, 2)), iv(3, 5)},
		{"CancelMinus([0, 1], [t, 1])", rev.CancelMinus(iv(0, 1), iv(least, 1)), iv(-least, 0)},
	})
}
