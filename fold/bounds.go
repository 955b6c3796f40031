package fold

import (
	"verge/api"
	"verge/ival"
	"verge/total"
)

// bounds are the exact sums of the single ranges' lower bounds and of their upper ones.
type bounds struct {
	low, high total.Sum
	void      bool // a single range is Empty, whatever the sums are
}

// add takes one range more, which is valid.
func (b *bounds) add(x api.Interval) {
	if void(x) {
		b.void = true
		return
	}
	b.low.Add(x.Lo)
	b.high.Add(x.Hi)
}

// addProduct takes the range of x times y. Its upper bound is minus the lower one of -x times y.
func (b *bounds) addProduct(x, y api.Interval) {
	x, y = ival.Read(x), ival.Read(y)
	if void(x) || void(y) {
		b.void = true
		return
	}
	p, q := leastCorner(x, y)
	lay(&b.low, p, q)
	p, q = leastCorner(ival.Neg(x), y)
	lay(&b.high, -p, q)
}

func (b *bounds) merge(o *bounds) {
	b.low.Merge(&o.low)
	b.high.Merge(&o.high)
	b.void = b.void || o.void
}

// told tells the interval of what end makes of the two sums, rounded outward.
func (b *bounds) told(end func(s *total.Sum, d int) float64) api.Interval {
	if b.void {
		return ival.Empty()
	}
	return api.Interval{Lo: end(&b.low, api.Down), Hi: end(&b.high, api.Up)}
}

// leastCorner tells an end of x and one of y whose product is the least, x and y valid and not Empty.
func leastCorner(x, y api.Interval) (p, q float64) {
	switch {
	case x.Lo < 0 && y.Hi > 0:
		if x.Hi > 0 && y.Lo < 0 && isLess(x.Hi, y.Lo, x.Lo, y.Hi) {
			return x.Hi, y.Lo
		}
		return x.Lo, y.Hi
	case x.Hi > 0 && y.Lo < 0:
		return x.Hi, y.Lo
	case x.Hi <= 0 && y.Hi <= 0:
		return x.Hi, y.Hi
	}
	return x.Lo, y.Lo
}

// isLess tells whether p times q is less than r times s, none of which is 0. They are held against
// each other exactly: rounded, two products may be one, or both too great or too small.
func isLess(p, q, r, s float64) bool {
	var apart total.Sum
	apart.Mul(p, q)
	apart.Mul(-r, s)
	return apart.Sign() < 0
}

// lay adds a product, of 0 and an infinity 0.
func lay(s *total.Sum, p, q float64) {
	if p != 0 && q != 0 {
		s.Mul(p, q)
	}
}

func void(x api.Interval) bool { return x == ival.Empty() }
