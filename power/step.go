package power

import (
	"math"

	"verge/api"
	"verge/ival"
)

// Sign tells the range of x's sign.
func Sign(x api.Interval) api.Interval { return climb(x, step{signOf}) }

// Floor tells the range of the greatest integer not above x.
func Floor(x api.Interval) api.Interval { return climb(x, step{math.Floor}) }

// Ceil tells the range of the least integer not below x.
func Ceil(x api.Interval) api.Interval { return climb(x, step{math.Ceil}) }

// Trunc tells the range of x, cut toward 0.
func Trunc(x api.Interval) api.Interval { return climb(x, step{math.Trunc}) }

// RoundEven tells the range of the integer nearest to x, of two the even one.
func RoundEven(x api.Interval) api.Interval { return climb(x, step{math.RoundToEven}) }

// RoundAway tells the range of the integer nearest to x, of two the one away from 0.
func RoundAway(x api.Interval) api.Interval { return climb(x, step{math.Round}) }

// step: what a step makes of an end. It never falls where its argument grows.
type step struct {
	of func(end float64) float64
}

// climb is the road that all steps share: what a step makes of the ends bounds what it makes of
// all between them.
func climb(x api.Interval, s step) api.Interval {
	x = ival.Read(x)
	if void(x) { // its ends are no bounds
		return x
	}
	return ival.Read(api.Interval{Lo: s.of(x.Lo), Hi: s.of(x.Hi)}) // of -0.5 some steps make -0
}

func signOf(x float64) float64 {
	switch {
	case x < 0:
		return -1
	case x > 0:
		return 1
	}
	return 0
}
