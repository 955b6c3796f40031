package rev

import (
	"math"

	"verge/api"
	"verge/ival"
	"verge/rel"
	"verge/round"
)

// NegRev tells what of x has its value in c.
func NegRev(c, x api.Interval) api.Interval { return rel.Intersect(x, ival.Neg(c)) }

// RecipRev tells what of x has its value in c.
func RecipRev(c, x api.Interval) api.Interval { return PownRev(-1, c, x) }

// SqrRev tells what of x has its value in c.
func SqrRev(c, x api.Interval) api.Interval { return PownRev(2, c, x) }

// SqrtRev tells what of x has its value in c.
func SqrtRev(c, x api.Interval) api.Interval {
	c = fromNought(c)
	has := func(v float64) bool { return round.Sqrt(api.Down, v) >= c.Lo && round.Sqrt(api.Up, v) <= c.Hi }
	return left(x, has, ival.Sqr(c))
}

// AbsRev tells what of x has its value in c.
func AbsRev(c, x api.Interval) api.Interval {
	c = fromNought(c)
	return rel.Hull(rel.Intersect(x, c), rel.Intersect(x, ival.Neg(c)))
}

// PownRev tells what of x has its power n in c.
func PownRev(n int, c, x api.Interval) api.Interval {
	c, x = ival.Read(c), ival.Read(x)
	switch {
	case n < -api.MaxPow || n > api.MaxPow || n == 0 && rel.Member(1, c):
		return x
	case n == 0:
		return ival.Empty()
	}
	above := bases(n, c)
	below := above // of an even power: v and -v have the same one
	if n%2 != 0 {
		below = bases(n, ival.Neg(c))
	}
	has := func(v float64) bool { return powerIn(v, n, c) }
	return left(x, has, ival.Neg(below), above)
}

// powerIn tells whether v to the power n is defined, and an element of c.
func powerIn(v float64, n int, c api.Interval) bool {
	if v == 0 && n < 0 {
		return false
	}
	return round.Pow(api.Down, v, n) >= c.Lo && round.Pow(api.Up, v, n) <= c.Hi
}

// bases tells the least interval that holds those reals from 0 on whose power n, which is not 0, is
// defined, and an element of c.
func bases(n int, c api.Interval) api.Interval {
	if n < 0 {
		if _, c = sides(c); rel.IsEmpty(c) {
			return c
		}
		return api.Interval{Lo: rootOfInverse(api.Down, c.Hi, -n), Hi: rootOfInverse(api.Up, c.Lo, -n)}
	}
	if c = fromNought(c); rel.IsEmpty(c) {
		return c
	}
	return api.Interval{Lo: round.Root(api.Down, c.Lo, n), Hi: round.Root(api.Up, c.Hi, n)}
}

// fromNought tells what of c is not below 0.
func fromNought(c api.Interval) api.Interval {
	return rel.Intersect(c, api.Interval{Lo: 0, Hi: math.Inf(1)})
}

// rootOfInverse tells the n-th root of 1 by c, rounded once; c is not below 0, d is Down or Up.
func rootOfInverse(d int, c float64, n int) float64 {
	if n == 1 {
		return round.Div(d, 1, c)
	}
	r := round.Div(api.Near, 1, round.Root(api.Near, c, n)) // rounded twice, so it may lie beside
	if r == 0 || math.IsInf(r, 1) {                         // of +Inf, and of 0
		return r
	}
	for round.Pow(api.Down, r, -n) < c { // the root lies below r
		r = math.Nextafter(r, 0)
	}
	over := math.Nextafter(r, math.Inf(1))
	for round.Pow(api.Down, over, -n) >= c { // the root does not lie below it
		r, over = over, math.Nextafter(over, math.Inf(1))
	}
	if d == api.Up && round.Pow(api.Up, r, -n) > c { // nor is it r
		return over
	}
	return r
}
