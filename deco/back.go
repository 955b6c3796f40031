package deco

import (
	"verge/api"
	"verge/ival"
)

// Back tells what of x can be an operation's argument at a place, if its value lies in c.
func Back(op, n, place int, c, x api.Interval, others ...api.Interval) (api.Interval, bool) {
	if place < 0 || place > len(others) {
		return ival.Empty(), false
	}
	switch len(others) {
	case 0:
		if one, ok := alone(op, n); ok {
			return one.back(c, x), true
		}
	case 1:
		if two, ok := pairs()[op]; ok {
			return two.back[place](others[0], c, x), true
		}
	case 2:
		if three, ok := triples()[op]; ok {
			return three.back[place](others[0], others[1], c, x), true
		}
	}
	return ival.Empty(), false
}

// BackDeco tells the same as Back of decorated intervals.
func BackDeco(op, n, place int, c, x api.Deco, others ...api.Deco) api.Deco {
	ends, weakest := bare(c, x)
	rest, weak := bare(others...)
	y, ok := Back(op, n, place, ends[0], ends[1], rest...)
	if !ok {
		return NaI()
	}
	return Set(y, min(weakest, weak, api.Trv))
}
