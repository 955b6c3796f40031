package rev

import (
	"math"

	"verge/api"
	"verge/ival"
	"verge/power"
	"verge/rel"
	"verge/round"
)

// SignRev tells what of x has its value in c.
func SignRev(c, x api.Interval) api.Interval {
	of := func(k float64) (from, to float64) {
		switch {
		case k < 0:
			return math.Inf(-1), 0
		case k > 0:
			return 0, math.Inf(1)
		}
		return 0, 0
	}
	return back(rel.Intersect(c, api.Interval{Lo: -1, Hi: 1}), x, power.Sign, of)
}

// FloorRev tells what of x has its value in c.
func FloorRev(c, x api.Interval) api.Interval { return back(c, x, power.Floor, about(0, 1)) }

// CeilRev tells what of x has its value in c.
func CeilRev(c, x api.Interval) api.Interval { return back(c, x, power.Ceil, about(1, 0)) }

// TruncRev tells what of x has its value in c.
func TruncRev(c, x api.Interval) api.Interval {
	ceil, floor := about(1, 0), about(0, 1)
	of := func(k float64) (from, to float64) {
		from, to = k, k
		if k <= 0 {
			from, _ = ceil(k)
		}
		if k >= 0 {
			_, to = floor(k)
		}
		return from, to
	}
	return back(c, x, power.Trunc, of)
}

// RoundEvenRev tells what of x has its value in c.
func RoundEvenRev(c, x api.Interval) api.Interval {
	return back(c, x, power.RoundEven, about(0.5, 0.5))
}

// RoundAwayRev tells what of x has its value in c.
func RoundAwayRev(c, x api.Interval) api.Interval {
	return back(c, x, power.RoundAway, about(0.5, 0.5))
}

// source tells from where on, and up to where, a whole number k is a step's value, rounded outward.
// Whether the step has that value at these ends too, it does not tell.
type source func(k float64) (from, to float64)

// about is the source of a step whose value lies at most so far above its argument, and so far below.
func about(above, below float64) source {
	return func(k float64) (from, to float64) {
		return round.Sub(api.Down, k, above), round.Add(api.Up, k, below)
	}
}

// back is the road that all steps share: their values grow one by one, so what has its value in c
// lies without gaps from where the first whole number of c comes of to where the last one does.
func back(c, x api.Interval, step func(api.Interval) api.Interval, of source) api.Interval {
	c = ival.Read(c)
	first, last := math.Ceil(c.Lo), math.Floor(c.Hi)
	if first > last {
		return ival.Empty()
	}
	from, _ := of(first)
	_, to := of(last)
	has := func(v float64) bool { return rel.Subset(step(point(v)), c) }
	return left(x, has, api.Interval{Lo: from, Hi: to})
}
