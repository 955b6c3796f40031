package rel

import (
	"verge/api"
	"verge/fbit"
	"verge/ival"
	"verge/meas"
)

// Bisect cuts an interval into two.
func Bisect(x api.Interval) (l, r api.Interval, ok bool) {
	x = ival.Read(x)
	if fbit.NextUp(x.Lo) >= x.Hi { // Empty goes this way too
		return api.Interval{}, api.Interval{}, false
	}
	c := cut(x)
	return api.Interval{Lo: x.Lo, Hi: c}, api.Interval{Lo: c, Hi: x.Hi}, true
}

// cut tells where to cut an interval that has a number between its ends.
func cut(x api.Interval) float64 {
	if IsCommon(x) {
		return meas.Mid(x)
	}
	lo, _ := fbit.Place(x.Lo)
	hi, _ := fbit.Place(x.Hi)
	// The sum may wrap round. An infinity's place is even, so the halves, each rounded down, make
	// the half of the sum, rounded down.
	c, _ := fbit.At[float64](lo>>1 + hi>>1)
	return c
}
