package rev

import (
	"verge/api"
	"verge/ival"
	"verge/nat"
	"verge/rel"
	"verge/round"
)

// CancelMinus tells the least interval that, with y added, holds x.
func CancelMinus(x, y api.Interval) api.Interval {
	x, y = ival.Read(x), ival.Read(y)
	switch {
	case rel.IsEmpty(x) && (rel.IsEmpty(y) || rel.IsCommon(y)):
		return ival.Empty()
	case rel.IsCommon(x) && rel.IsCommon(y) && nat.Cmp(gap(x.Lo, x.Hi), gap(y.Lo, y.Hi)) >= 0:
		return api.Interval{Lo: round.Sub(api.Down, x.Lo, y.Lo), Hi: round.Sub(api.Up, x.Hi, y.Hi)}
	}
	return ival.Entire()
}

// CancelPlus tells CancelMinus of x and -y.
func CancelPlus(x, y api.Interval) api.Interval { return CancelMinus(x, ival.Neg(y)) }
