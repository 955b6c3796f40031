package rev

import (
	"math"

	"verge/api"
	"verge/ival"
	"verge/nat"
	"verge/rel"
	"verge/round"
)

// MulPair tells the two parts of what, times some number of b, lies in c.
func MulPair(b, c api.Interval) (lower, upper api.Interval) {
	b, c = ival.Read(b), ival.Read(c)
	one, other := factors(b, point(0), c)
	switch {
	case rel.IsEmpty(one) || rel.IsEmpty(other):
		return rel.Hull(one, other), ival.Empty()
	case c.Hi < 0:
		return other, one
	}
	return one, other
}

// factors tells the least intervals that hold those t of which t q + r is an element of c for some
// q of b and r of z: for the q below 0, and for those above it. But where 0 as q makes all reals such
// a t, one holds them all.
func factors(b, z, c api.Interval) (one, other api.Interval) {
	switch {
	case rel.IsEmpty(z) || rel.IsEmpty(c):
		return ival.Empty(), ival.Empty()
	case rel.Member(0, b) && !rel.Disjoint(z, c):
		return ival.Entire(), ival.Empty()
	}
	below, above := sides(b)
	return quotients(z, c, ival.Neg(below)), quotients(c, z, above)
}

// quotients tells the least interval that holds all of c less z, by the elements of b that are above
// 0. b has no other ones but 0, and has 0 only where c and z have nothing in common.
func quotients(c, z, b api.Interval) api.Interval {
	if rel.IsEmpty(b) {
		return b
	}
	low, high := b.Lo, b.Lo
	if c.Lo >= z.Hi {
		low = b.Hi
	}
	if c.Hi <= z.Lo {
		high = b.Hi
	}
	return api.Interval{Lo: quotient(api.Down, c.Lo, z.Hi, low), Hi: quotient(api.Up, c.Hi, z.Lo, high)}
}

// quotient tells p - q, by an end b that is not below 0, rounded once.
func quotient(d int, p, q, b float64) float64 {
	less, more := round.Sub(api.Down, p, q), round.Sub(api.Up, p, q)
	switch {
	case math.IsInf(b, 1): // what this is asked of is finite
		return 0
	case less == more || b == 0: // by 0 the sign alone counts
		return round.Div(d, less, b)
	}
	return round.Ratio(d, p < q, gap(p, q), counted(b), 0)
}

// gap tells how far two numbers lie from each other, in steps of the least number.
func gap(p, q float64) []uint32 {
	a, b := counted(p), counted(q)
	if (p < 0) != (q < 0) {
		sum, _ := nat.Add(a, b)
		return sum
	}
	if nat.Cmp(a, b) < 0 {
		a, b = b, a
	}
	rest, _ := nat.Sub(a, b)
	return rest
}

// counted tells how many times the least number goes into a number's magnitude.
func counted(x float64) []uint32 {
	bits := math.Float64bits(math.Abs(x))
	sig, exp := bits&(1<<52-1), int(bits>>52)
	if exp > 0 { // a normal number: its highest bit isn't written
		sig, exp = sig|1<<52, exp-1
	}
	out, _ := nat.Shl(nat.Small(sig), exp)
	return out
}
