package rel_test

import (
	"testing"

	"verge/api"
	"verge/rel"
)

// P9.4

func TestOverlapOfAllOrders(t *testing.T) {
	met := map[int]bool{}
	for _, x := range crossed([]float64{-inf, -greatest, -2, -1, 0, 1, 2, greatest, inf}) {
		for _, y := range crossed([]float64{-inf, -greatest, -2, -1, 0, 1, 2, greatest, inf}) {
			checkOverlap(t, x, y)
			met[rel.Overlap(x, y)] = true
		}
	}
	if len(met) != 16 {
		t.Errorf("%d states were met", len(met))
	}
}

// Each state, written out: with ends that are numbers, with infinite ends, with singletons.
func TestEdgesOfOverlap(t *testing.T) {
	for _, c := range []struct {
		x, y          api.Interval
		state, across int
	}{
		{empty, empty, api.BothEmpty, api.BothEmpty},
		{iv(2, 1), iv(nan, 1), api.BothEmpty, api.BothEmpty},
		{iv(inf, inf), iv(-inf, -inf), api.BothEmpty, api.BothEmpty},
		{empty, entire, api.FirstEmpty, api.SecondEmpty},
		{empty, iv(1, 1), api.FirstEmpty, api.SecondEmpty},
		{iv(1, nan), iv(1, 2), api.FirstEmpty, api.SecondEmpty},
		{iv(inf, inf), iv(1, inf), api.FirstEmpty, api.SecondEmpty},

		{iv(1, 2), iv(3, 4), api.Before, api.After},
		{iv(1, 1), iv(2, 2), api.Before, api.After},
		{iv(1, 1), iv(above(1), 2), api.Before, api.After},
		{iv(-inf, 1), iv(2, inf), api.Before, api.After},
		{iv(-least, -least), iv(signed, signed), api.Before, api.After},

		{iv(1, 2), iv(2, 3), api.Meets, api.MetBy},
		{iv(-inf, 2), iv(2, inf), api.Meets, api.MetBy},
		{iv(-1, signed), iv(0, 1), api.Meets, api.MetBy},

		{iv(1, 3), iv(2, 4), api.Overlaps, api.OverlappedBy},
		{iv(-inf, 3), iv(2, inf), api.Overlaps, api.OverlappedBy},
		{iv(-inf, above(1)), iv(1, 2), api.Overlaps, api.OverlappedBy},

		{iv(1, 2), iv(1, 3), api.Starts, api.StartedBy},
		{iv(1, 1), iv(1, 3), api.Starts, api.StartedBy},
		{iv(1, 2), iv(1, inf), api.Starts, api.StartedBy},
		{iv(-inf, 2), iv(-inf, 3), api.Starts, api.StartedBy},
		{iv(-inf, 2), entire, api.Starts, api.StartedBy},
		{iv(signed, 0), iv(0, least), api.Starts, api.StartedBy},

		{iv(2, 3), iv(1, 4), api.ContainedBy, api.Contains},
		{iv(2, 2), iv(1, 4), api.ContainedBy, api.Contains},
		{iv(1, 4), entire, api.ContainedBy, api.Contains},
		{iv(1, 1), entire, api.ContainedBy, api.Contains},
		{iv(2, 3), iv(1, inf), api.ContainedBy, api.Contains},
		{iv(-greatest, greatest), entire, api.ContainedBy, api.Contains},

		{iv(2, 3), iv(1, 3), api.Finishes, api.FinishedBy},
		{iv(3, 3), iv(1, 3), api.Finishes, api.FinishedBy},
		{iv(2, inf), iv(1, inf), api.Finishes, api.FinishedBy},
		{iv(2, inf), entire, api.Finishes, api.FinishedBy},
		{iv(1, 2), iv(-inf, 2), api.Finishes, api.FinishedBy},
		{iv(0, signed), iv(-least, 0), api.Finishes, api.FinishedBy},

		{iv(1, 2), iv(1, 2), api.Equals, api.Equals},
		{iv(1, 1), iv(1, 1), api.Equals, api.Equals},
		{entire, entire, api.Equals, api.Equals},
		{iv(-inf, 1), iv(-inf, 1), api.Equals, api.Equals},
		{iv(1, inf), iv(1, inf), api.Equals, api.Equals},
		{iv(signed, 1), iv(0, 1), api.Equals, api.Equals},
	} {
		if got := rel.Overlap(c.x, c.y); got != c.state {
			t.Errorf("Overlap(%v, %v) = %d, want %d", c.x, c.y, got, c.state)
		}
		if got := rel.Overlap(c.y, c.x); got != c.across {
			t.Errorf("Overlap(%v, %v) = %d, want %d", c.y, c.x, got, c.across)
		}
	}
}
