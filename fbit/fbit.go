// Package fbit: binary64 and binary32 as bits: see DOC.md, chapter 1.
package fbit

import (
	"cmp"
	"math"
	"math/bits"

	"verge/api"
)

// Float is a kind of floating point numbers.
type Float interface{ ~float32 | ~float64 }

// Class tells of which class a number is.
func Class[F Float](x F) int {
	l := layoutOf[F]()
	negative, magnitude := pattern(x)
	rank := 0
	switch { // each kind of magnitude counts one more than the next lesser kind, which it falls through to
	case magnitude > l.infinity():
		return api.ClassNaN
	case magnitude == l.infinity():
		rank++
		fallthrough
	case magnitude >= l.full():
		rank++
		fallthrough
	case magnitude > 0:
		rank++
	}
	if negative {
		return api.ClassMinusZero - rank
	}
	return api.ClassZero + rank
}

// Plain tells x, and 0 for -0.
func Plain[F Float](x F) F {
	if x == 0 { // -0 is equal to 0
		return 0
	}
	return x
}

// NextUp tells the least number above x.
func NextUp[F Float](x F) F {
	p, ok := Place(x)
	if !ok || p == layoutOf[F]().infinity() {
		return x
	}
	up, _ := At[F](p + 1)
	return up
}

// NextDown tells the greatest number below x.
func NextDown[F Float](x F) F {
	p, ok := Place(x)
	if !ok || p == -layoutOf[F]().infinity() {
		return x
	}
	down, _ := At[F](p - 1)
	return down
}

// Order tells which of two stands ahead, of all numbers and NaN.
func Order[F Float](a, b F) int {
	return cmp.Compare(rankOf(a), rankOf(b))
}

// Place tells a number's place among all, 0 at 0.
func Place[F Float](x F) (int64, bool) {
	negative, magnitude := pattern(x)
	if magnitude > layoutOf[F]().infinity() {
		return 0, false
	}
	if negative {
		return -magnitude, true
	}
	return magnitude, true
}

// At tells the number at a place.
func At[F Float](p int64) (F, bool) {
	last := layoutOf[F]().infinity()
	if p < -last || p > last {
		return 0, false
	}
	if p < 0 {
		return -fromMagnitude[F](-p), true
	}
	return fromMagnitude[F](p), true
}

// Steps tells how many numbers one goes from a to b.
func Steps[F Float](a, b F) (int64, bool) {
	from, aIsPlaced := Place(a)
	to, bIsPlaced := Place(b)
	if !aIsPlaced || !bIsPlaced {
		return 0, false
	}
	n := to - from
	if (n < 0) != (to < from) { // it has wrapped round
		return 0, false
	}
	return n, true
}

// Split tells a finite number's sign, significand and exponent.
func Split[F Float](x F) (neg bool, sig uint64, exp int, ok bool) {
	l := layoutOf[F]()
	negative, magnitude := pattern(x)
	if magnitude >= l.infinity() {
		return false, 0, 0, false
	}
	// Subnormal numbers have the same exponent as the first normal ones.
	rise := max(magnitude/l.full()-1, 0)
	return negative && magnitude != 0, uint64(magnitude - rise*l.full()), l.least + int(rise), true
}

// Join tells the number of a sign, a significand and an exponent, if there is one.
func Join[F Float](neg bool, sig uint64, exp int) (F, api.Errno) {
	if sig == 0 {
		return 0, api.OK
	}
	l := layoutOf[F]()
	if exp >= l.top+l.width { // 1 is too great already; below that no sum of exponents wraps round
		return 0, api.ErrArg
	}
	zeros := bits.TrailingZeros64(sig)
	sig >>= zeros
	exp += zeros
	length := bits.Len64(sig)
	if length > l.width || exp < l.least || exp+length > l.top+l.width {
		return 0, api.ErrArg
	}
	shift := min(l.width-length, exp-l.least)
	rise := int64(exp - shift - l.least)
	x := fromMagnitude[F](rise*l.full() + int64(sig<<shift))
	if neg {
		return -x, api.OK
	}
	return x, api.OK
}

// Whole tells the integer that a number is, if it is one of 64 bits.
func Whole[F Float](x F) (int64, bool) {
	if !(x >= -0x1p63 && x < 0x1p63) { // so written, NaN goes this way too
		return 0, false
	}
	n := int64(x)
	if F(n) != x { // a fraction was cut off: then x is small, and n exact in F
		return 0, false
	}
	return n, true
}

// Of tells the number nearest to an integer, and whether it is that integer.
func Of[F Float](n int64) (F, bool) {
	x := F(n) // straight to F: by way of binary64 it would be rounded twice
	back, ok := Whole(x)
	return x, ok && back == n
}

// rankOf tells a place that parts -0 from 0, and puts NaN last.
func rankOf[F Float](x F) int64 {
	p, ok := Place(x)
	if !ok {
		return math.MaxInt64
	}
	if negative, _ := pattern(x); negative {
		return p - 1
	}
	return p
}
