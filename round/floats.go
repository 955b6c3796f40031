package round

import (
	"math"

	"verge/api"
	"verge/fbit"
)

// The quick roads: what the nearest float is, and how far off.

// Each of these says false of NaN.

func finite(x float64) bool { return math.Abs(x) <= math.MaxFloat64 }

// tame: so far no sum grows too great. None can be too small, since below the normal numbers every
// sum is exact.
func tame(x float64) bool { return math.Abs(x) <= 0x1p1000 }

// mild: here products, quotients and square roots, and what these are off, are far from the subnormal
// numbers and from the greatest ones, and so are the halves of each.
func mild(x float64) bool { return math.Abs(x) >= 0x1p-450 && math.Abs(x) <= 0x1p450 }

// stepped tells what is rounded in the direction d to, where near is the number nearest to it, and
// it lies above near, or below, as off does with 0.
func stepped(d int, near, off float64) float64 {
	switch {
	case d == api.Down && off < 0:
		return fbit.NextDown(near)
	case d == api.Up && off > 0:
		return fbit.NextUp(near)
	}
	return fbit.Plain(near)
}

// twoSum (Knuth's) tells x + y to the nearest, and what is missing.
func twoSum(x, y float64) (near, off float64) {
	near = x + y
	part := near - x
	return near, (x - (near - part)) + (y - part)
}

// halves (Veltkamp's) parts x into two numbers of 26 bits and a sign, so that products of such are
// exact.
func halves(x float64) (high, low float64) {
	c := float64(x * (1<<27 + 1))
	high = c - (c - x)
	return high, x - high
}

// twoProduct (Dekker's) tells x times y to the nearest, and what is missing. No product stands bare
// in a sum here: it might be rounded together with it.
func twoProduct(x, y float64) (near, off float64) {
	near = float64(x * y)
	xh, xl := halves(x)
	yh, yl := halves(y)
	rest := near - float64(xh*yh)
	rest -= float64(xl * yh)
	rest -= float64(xh * yl)
	return near, float64(xl*yl) - rest
}

// lacking tells x less what p times q is, where that is next to x: then it is a float.
func lacking(x, p, q float64) float64 {
	near, off := twoProduct(p, q)
	return (x - near) - off
}

// twoQuotient tells x by y to the nearest, and a number with the sign of what is missing.
func twoQuotient(x, y float64) (near, off float64) {
	near = x / y
	off = lacking(x, near, y)
	if y < 0 {
		off = -off
	}
	return near, off
}

// twoRoot tells the square root of x to the nearest, and a number with the sign of what is missing.
func twoRoot(x float64) (near, off float64) {
	near = math.Sqrt(x)
	return near, lacking(x, near, near)
}

// fused (Boldo's and Melquiond's) tells two numbers whose sum is rounded as x times y and z is: that
// needs three numbers, but the last two are but a few last places of the first, and may be made one
// that is odd, if it is not exact: then it lies on the same side of all that decides a rounding.
func fused(x, y, z float64) (head, tail float64) {
	product, rest := twoProduct(x, y)
	sum, least := twoSum(z, rest)
	head, rest = twoSum(product, sum)
	return head, odd(twoSum(rest, least))
}

// odd tells near, if off is 0; else that one of near and its neighbour on the side of off whose last
// bit is 1.
func odd(near, off float64) float64 {
	switch {
	case off == 0 || math.Float64bits(near)%2 == 1:
		return near
	case off < 0:
		return fbit.NextDown(near)
	}
	return fbit.NextUp(near)
}
