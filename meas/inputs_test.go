package meas_test

import (
	"math"

	"verge/api"
)

// What the tests hand in.

// dice are numbers that look like chance, the same at every run.
type dice uint64

func (d *dice) next() uint64 {
	*d ^= *d << 13
	*d ^= *d >> 7
	*d ^= *d << 17
	return uint64(*d) * 0x2545f4914f6cdd1d
}

func (d *dice) below(n int) int { return int(d.next() >> 1 % uint64(n)) }

// significand tells whole numbers of 53 bits, many of them with few bits at the top or at the end,
// with either sign.
func (d *dice) significand() float64 {
	sig := d.next() >> 11
	switch d.below(4) {
	case 0:
		sig = uint64(d.below(8))
	case 1:
		sig = 1<<52 + uint64(d.below(8))
	case 2:
		sig = 1<<53 - 1 - uint64(d.below(8))
	}
	if d.below(2) == 0 {
		return -float64(sig)
	}
	return float64(sig)
}

// number tells numbers of all magnitudes, the least, those about 1 and the greatest more often.
func (d *dice) number() float64 {
	switch d.below(4) {
	case 0:
		return math.Ldexp(d.significand(), -1074+d.below(2045))
	case 1:
		return math.Ldexp(d.significand(), -1074+d.below(4))
	case 2:
		return math.Ldexp(d.significand(), 971-d.below(4))
	}
	return math.Ldexp(d.significand(), -53+d.below(4))
}

// beside tells a number that is not far from x: some steps away, or with an exponent so near that
// a sum or a difference of the two is decided by the last bits, or the same, or mirrored.
func (d *dice) beside(x float64) float64 {
	switch d.below(8) {
	case 0:
		return x
	case 1:
		return -x
	case 2, 3:
		for range d.below(5) {
			x = above(x)
		}
		return max(-greatest, min(greatest, x))
	case 4:
		return d.number()
	}
	_, exp := math.Frexp(x)
	return max(-greatest, min(greatest, math.Ldexp(d.significand(), exp-53-58+d.below(64))))
}

// end tells numbers and, now and then, infinities and numbers on which much hangs.
func (d *dice) end() float64 {
	switch d.below(20) {
	case 0:
		return inf
	case 1:
		return -inf
	case 2:
		return some()[d.below(len(some()))]
	}
	return d.number()
}

// interval tells intervals that are not Empty, as they would be read.
func (d *dice) interval() api.Interval {
	for {
		x := d.end()
		y := d.beside(x)
		if d.below(4) == 0 {
			y = d.end()
		}
		if out, none := taken(iv(min(x, y), max(x, y))); !none {
			return out
		}
	}
}

// other tells an interval that shares an end with x, or has ends that are not far from its own.
func (d *dice) other(x api.Interval) api.Interval {
	for {
		y := iv(d.moved(x.Lo), d.moved(x.Hi))
		if out, none := taken(iv(min(y.Lo, y.Hi), max(y.Lo, y.Hi))); !none {
			return out
		}
	}
}

func (d *dice) moved(end float64) float64 {
	if d.below(3) == 0 || math.IsInf(end, 0) && d.below(3) > 0 {
		return end
	}
	return d.beside(max(-greatest, min(greatest, end)))
}

// element tells a number in an interval that is not Empty.
func (d *dice) element(x api.Interval) float64 {
	lo, hi := max(x.Lo, -greatest), min(x.Hi, greatest)
	switch g := d.beside(lo); {
	case lo <= g && g <= hi:
		return g
	case d.below(3) == 0:
		return lo
	case d.below(3) == 0:
		return hi
	}
	part := float64(d.next()>>11) * 0x1p-53
	return max(lo, min(hi, float64(lo*(1-part))+float64(hi*part)))
}

// some numbers on which much hangs.
func some() []float64 {
	return []float64{least, -least, 2 * least, -2 * least, 3 * least, -3 * least, 0x1p-1022, -0x1p-1022, below(0x1p-1022), 0x1p-1021, -0x1p-1021, above(0x1p-1021), 0x1p-53, 0.1, -0.1, 0.5, 1, -1,
		1 + 0x1p-52, -1 - 0x1p-52, 1 + 0x1p-51, 1 - 0x1p-53, -1.5, 2.5, -3, 10, 0x1p53, -0x1p53, 0x1p969, 0x1p970, -0x1p970, below(0x1p970), above(-0x1p970), 0x1p971, 0x1p1022, 0x1p1023, -0x1p1023,
		above(0x1p1023), below(0x1p1023), greatest, -greatest, below(greatest), above(-greatest)}
}

// edges are the ends that the document names, wrong ones too.
func edges() []float64 {
	return []float64{-inf, -greatest, -3, -0.1, -least, signed, 0, least, 0.7, 2, greatest, inf, nan}
}

// crossed tells all pairs of ends as intervals.
func crossed(ends []float64) []api.Interval {
	var out []api.Interval
	for _, lo := range ends {
		for _, hi := range ends {
			out = append(out, iv(lo, hi))
		}
	}
	return out
}

// patterns are NaNs of all kinds, and other ends on which much hangs.
func patterns() []float64 {
	out := append(edges(), some()...)
	for _, bits := range []uint64{0x7ff0000000000001, 0x7ff8000000000001, 0x7fffffffffffffff, 0xfff0000000000001, 0xfff8000000000000, 0xffffffffffffffff} {
		out = append(out, math.Float64frombits(bits))
	}
	return out
}

// eachPair hands all pairs of patterns to try, and pairs of any bits.
func eachPair(seed dice, try func(lo, hi float64)) {
	for _, lo := range patterns() {
		for _, hi := range patterns() {
			try(lo, hi)
		}
		for range 20 {
			any := math.Float64frombits(seed.next())
			try(lo, any)
			try(any, lo)
		}
	}
	for range 4000 {
		lo, hi := seed.next(), seed.next()
		try(math.Float64frombits(lo), math.Float64frombits(hi))
		try(math.Float64frombits(lo), math.Float64frombits(lo^1<<seed.below(64)))
	}
}
