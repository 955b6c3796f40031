package rel_test

import (
	"testing"

	"verge/api"
	"verge/rel"
)

// The rows of the chapter's examples.

func TestExamplesOfSets(t *testing.T) {
	is(t, rel.Intersect(iv(1, 3), iv(2, 4)), iv(2, 3), "Intersect([1, 3], [2, 4])")
	is(t, rel.Intersect(iv(1, 2), iv(3, 4)), empty, "Intersect([1, 2], [3, 4])")
	is(t, rel.Intersect(iv(1, 2), iv(2, 3)), iv(2, 2), "Intersect([1, 2], [2, 3])")
	is(t, rel.Intersect(entire, iv(1, inf)), iv(1, inf), "Intersect(Entire, [1, +Inf])")
	is(t, rel.Hull(iv(1, 2), iv(5, 6)), iv(1, 6), "Hull([1, 2], [5, 6])")
	is(t, rel.Hull(empty, iv(1, 2)), iv(1, 2), "Hull(Empty, [1, 2])")
	is(t, rel.Hull(empty, empty), empty, "Hull(Empty, Empty)")
}

type claim struct {
	name      string
	got, want bool
}

func checkClaims(t *testing.T, claims []claim) {
	t.Helper()
	for _, c := range claims {
		holds(t, c.got, c.want, "%s", c.name)
	}
}

func TestExamplesOfRelations(t *testing.T) {
	checkClaims(t, []claim{
		{"Subset(Empty, Empty)", rel.Subset(empty, empty), true},
		{"Subset(Empty, [1, 2])", rel.Subset(empty, iv(1, 2)), true},
		{"Subset([1, 2], Empty)", rel.Subset(iv(1, 2), empty), false},
		{"Subset([1, 2], [1, 3])", rel.Subset(iv(1, 2), iv(1, 3)), true},
		{"Interior(Empty, Empty)", rel.Interior(empty, empty), true},
		{"Interior([1, 2], [1, 3])", rel.Interior(iv(1, 2), iv(1, 3)), false},
		{"Interior([1, 2], [0, 3])", rel.Interior(iv(1, 2), iv(0, 3)), true},
		{"Interior([1, +Inf], [0, +Inf])", rel.Interior(iv(1, inf), iv(0, inf)), true},
		{"Interior(Entire, Entire)", rel.Interior(entire, entire), true},
		{"Less(Empty, Empty)", rel.Less(empty, empty), true},
		{"Less(Empty, [1, 2])", rel.Less(empty, iv(1, 2)), false},
		{"Less([1, 2], Empty)", rel.Less(iv(1, 2), empty), false},
		{"Less([1, 3], [2, 4])", rel.Less(iv(1, 3), iv(2, 4)), true},
		{"Less([1, 4], [2, 3])", rel.Less(iv(1, 4), iv(2, 3)), false},
		{"StrictLess([1, 3], [2, 4])", rel.StrictLess(iv(1, 3), iv(2, 4)), true},
		{"StrictLess([1, 3], [1, 4])", rel.StrictLess(iv(1, 3), iv(1, 4)), false},
		{"StrictLess([-Inf, 3], [-Inf, 4])", rel.StrictLess(iv(-inf, 3), iv(-inf, 4)), true},
		{"StrictLess([1, +Inf], [2, +Inf])", rel.StrictLess(iv(1, inf), iv(2, inf)), true},
		{"Precedes([1, 2], [2, 3])", rel.Precedes(iv(1, 2), iv(2, 3)), true},
		{"StrictPrecedes([1, 2], [2, 3])", rel.StrictPrecedes(iv(1, 2), iv(2, 3)), false},
		{"Precedes(Empty, [1, 2])", rel.Precedes(empty, iv(1, 2)), true},
		{"StrictPrecedes([1, 2], Empty)", rel.StrictPrecedes(iv(1, 2), empty), true},
		{"Disjoint([1, 2], [3, 4])", rel.Disjoint(iv(1, 2), iv(3, 4)), true},
		{"Disjoint([1, 2], [2, 3])", rel.Disjoint(iv(1, 2), iv(2, 3)), false},
		{"Disjoint(Empty, Entire)", rel.Disjoint(empty, entire), true},
	})
}

func TestExamplesOfKinds(t *testing.T) {
	checkClaims(t, []claim{
		{"Member(1, [1, 2])", rel.Member(1, iv(1, 2)), true},
		{"Member(+Inf, Entire)", rel.Member(inf, entire), false},
		{"Member(NaN, Entire)", rel.Member(nan, entire), false},
		{"Member(-0, [0, 1])", rel.Member(signed, iv(0, 1)), true},
		{"IsEmpty({2, 1})", rel.IsEmpty(iv(2, 1)), true},
		{"IsEntire({-Inf, +Inf})", rel.IsEntire(iv(-inf, inf)), true},
		{"IsSingleton({-0, 0})", rel.IsSingleton(iv(signed, 0)), true},
		{"IsCommon([1, +Inf])", rel.IsCommon(iv(1, inf)), false},
	})
}

func TestExamplesOfOverlap(t *testing.T) {
	for _, c := range []struct {
		x, y api.Interval
		want int
	}{
		{iv(1, 1), iv(1, 2), api.Starts}, {iv(2, 2), iv(1, 2), api.Finishes}, {iv(1, 2), iv(2, 3), api.Meets},
		{iv(1, 2), iv(2, 2), api.FinishedBy}, {iv(1, 4), iv(2, 3), api.Contains}, {empty, iv(1, 2), api.FirstEmpty},
	} {
		if got := rel.Overlap(c.x, c.y); got != c.want {
			t.Errorf("Overlap(%v, %v) = %d, want %d", c.x, c.y, got, c.want)
		}
	}
}

func TestExamplesOfBisect(t *testing.T) {
	checkCuts(t, []cutting{
		{iv(1, 3), 2},
		{iv(0, 0x1p-1073), 0x1p-1074},
		{entire, 0},
		{iv(1, inf), 0x1p512},
	})
	checkWhole(t, iv(1, 1+0x1p-52), iv(1, 1), empty, iv(greatest, inf))
}
