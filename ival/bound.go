package ival

import (
	"math"

	"verge/api"
	"verge/round"
)

// The intervals here are valid and not Empty. A range's upper bound is taken as minus the lower
// bound of what is turned, so that one switch finds both.

// spread tells the interval of what low makes of two ends, bounded as products are.
func spread(x, y api.Interval, low func(p, q float64) float64) api.Interval {
	return api.Interval{Lo: least(x, y, low), Hi: minus(least(Neg(x), y, low))}
}

// least tells the least of what low makes of an end of x and one of y, where that grows as their
// product does: the signs tell which ends those are.
func least(x, y api.Interval, low func(p, q float64) float64) float64 {
	found := math.Inf(1)
	switch {
	case x.Lo < 0 && x.Hi > 0 && y.Lo < 0 && y.Hi > 0: // either of two products may be the lesser
		found = low(x.Hi, y.Lo)
		fallthrough
	case x.Lo < 0 && y.Hi > 0:
		return min(found, low(x.Lo, y.Hi))
	case x.Hi > 0 && y.Lo < 0:
		return low(x.Hi, y.Lo)
	case x.Hi <= 0 && y.Hi <= 0:
		return low(x.Hi, y.Hi)
	}
	return low(x.Lo, y.Lo)
}

// leastSum tells the lower bound of the products of x and y, and e, rounded once.
func leastSum(x, y api.Interval, e float64) float64 {
	return least(x, y, func(p, q float64) float64 {
		if p == 0 || q == 0 { // times an infinity too
			return e
		}
		return round.FMA(api.Down, p, q, e)
	})
}

func product(p, q float64) float64 {
	if p == 0 || q == 0 { // times an infinity too
		return 0
	}
	return round.Mul(api.Down, p, q)
}

// quotient is never asked of two infinities: an infinite end of x is taken with that end of y alone
// that is nearer to 0, a number.
func quotient(p, q float64) float64 { return round.Div(api.Down, p, q) }

// byNought tells the range of x by y, where 0 is an element of y.
func byNought(x, y api.Interval) api.Interval {
	switch {
	case y.Lo == 0 && y.Hi == 0:
		return Empty()
	case x.Lo == 0 && x.Hi == 0:
		return x
	case y.Lo < 0 && y.Hi > 0, x.Lo < 0 && x.Hi > 0:
		return Entire()
	case y.Lo == 0 && x.Lo >= 0:
		return from(round.Div(api.Down, x.Lo, y.Hi))
	case y.Lo == 0:
		return upTo(round.Div(api.Up, x.Hi, y.Hi))
	case x.Lo >= 0:
		return upTo(round.Div(api.Up, x.Lo, y.Lo))
	}
	return from(round.Div(api.Down, x.Hi, y.Lo))
}

func from(lo float64) api.Interval { return api.Interval{Lo: lo, Hi: math.Inf(1)} }

func upTo(hi float64) api.Interval { return api.Interval{Lo: math.Inf(-1), Hi: hi} }

// magnitudes tells the least and the greatest magnitude of x's elements.
func magnitudes(x api.Interval) (low, high float64) {
	low, high = math.Abs(x.Lo), math.Abs(x.Hi)
	if holdsNought(x) {
		return 0, max(low, high)
	}
	return min(low, high), max(low, high)
}
