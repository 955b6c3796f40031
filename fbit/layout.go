package fbit

import "math"

// layout is what sets one format apart from the other.
type layout struct {
	width int // bits of a full significand
	least int // the least exponent
	top   int // the exponent of the greatest numbers
}

func layoutOf[F Float]() layout {
	if isBinary64[F]() {
		return layout{width: 53, least: -1074, top: 971}
	}
	return layout{width: 24, least: -149, top: 104}
}

// full is the least full significand. Since numbers of one exponent lie side by side, it is also the
// place of the least normal number, and how many numbers above 0 have one exponent.
func (l layout) full() int64 { return 1 << (l.width - 1) }

// infinity is the place of +Inf.
func (l layout) infinity() int64 { return int64(l.top-l.least+2) * l.full() }

// isBinary64 asks by a conversion, since a type of its own name is not told by a type switch:
// binary32 cannot hold this number.
func isBinary64[F Float]() bool {
	n := int64(1<<24 + 1)
	return int64(F(n)) == n
}

// pattern tells the bits of x: its sign, and the rest, which is the place of the magnitude (and
// behind that of +Inf, if x is NaN).
func pattern[F Float](x F) (negative bool, magnitude int64) {
	if isBinary64[F]() {
		b := math.Float64bits(float64(x))
		return b>>63 != 0, int64(b &^ (1 << 63))
	}
	b := math.Float32bits(float32(x))
	return b>>31 != 0, int64(b &^ (1 << 31))
}

// fromMagnitude tells the number at a place from 0 to that of +Inf.
func fromMagnitude[F Float](magnitude int64) F {
	if isBinary64[F]() {
		return F(math.Float64frombits(uint64(magnitude)))
	}
	return F(math.Float32frombits(uint32(magnitude)))
}
