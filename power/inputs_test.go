package power_test

import (
	"math"

	"verge/api"
)

// What the tests hand in.

// dice are numbers that look like chance, the same at every run.
type dice uint64

func (d *dice) next() uint64 {
	*d ^= *d << 13
	*d ^= *d >> 7
	*d ^= *d << 17
	return uint64(*d) * 0x2545f4914f6cdd1d
}

func (d *dice) below(n int) int { return int(d.next() >> 1 % uint64(n)) }

// number tells numbers of all magnitudes, and of some more often: those about 1, whose great
// powers are numbers too, and those with few places behind the point.
func (d *dice) number() float64 {
	sig := float64(d.next()>>11 | 1)
	if d.below(3) == 0 {
		sig = float64(d.below(40))
	}
	if d.below(2) == 0 {
		sig = -sig
	}
	switch d.below(8) {
	case 0:
		return math.Ldexp(sig, -1130+d.below(100))
	case 1:
		return math.Ldexp(sig, -1074+d.below(2045))
	case 2:
		return math.Ldexp(sig, -54+d.below(3))
	case 3:
		return math.Ldexp(float64(d.below(1<<20)-1<<19), -d.below(4))
	case 4:
		return math.Copysign(1+float64(d.below(2000)-1000)*0x1p-53, sig)
	}
	return math.Ldexp(sig, -60+d.below(20))
}

// end tells numbers, infinities, and numbers on which much hangs.
func (d *dice) end() float64 {
	switch d.below(12) {
	case 0:
		return inf
	case 1:
		return -inf
	case 2:
		return 0
	case 3:
		return some()[d.below(len(some()))]
	}
	return d.number()
}

// interval tells intervals that are not Empty, as they would be read.
func (d *dice) interval() api.Interval {
	for {
		x, y := d.end(), d.end()
		switch d.below(4) {
		case 0: // narrow ones
			y = above(above(x))
		case 1:
			y = x
		}
		if out, none := taken(iv(min(x, y), max(x, y))); !none {
			return out
		}
	}
}

// power tells powers, small ones more often.
func (d *dice) power() int {
	switch d.below(10) {
	case 0:
		return d.below(2*api.MaxPow+1) - api.MaxPow
	case 1:
		return d.below(401) - 200
	}
	return d.below(25) - 12
}

// element tells a number in an interval that is not Empty.
func (d *dice) element(x api.Interval) float64 {
	lo, hi := max(x.Lo, -greatest), min(x.Hi, greatest)
	switch g := d.number(); {
	case lo <= g && g <= hi:
		return g
	case d.below(3) == 0:
		return lo
	case d.below(3) == 0:
		return hi
	}
	part := float64(d.next()>>11) * 0x1p-53
	return max(lo, min(hi, float64(lo*(1-part))+float64(hi*part)))
}

// inside tells an interval that lies in another that is not Empty.
func (d *dice) inside(x api.Interval) api.Interval {
	p, q := d.element(x), d.element(x)
	in := iv(min(p, q)+0, max(p, q)+0)
	switch d.below(4) {
	case 0:
		in.Lo = x.Lo
	case 1:
		in.Hi = x.Hi
	}
	return in
}

// some numbers on which much hangs.
func some() []float64 {
	return []float64{least, -least, 0x1p-1022, -0x1p-1022, 0x1p-537, -0x1p-358, 0.1, -0.1, 1, -1, 1 + 0x1p-52, 1 - 0x1p-53, -1.5, 2.5, -3, 10,
		0x1p52 - 0.5, -0x1p52 - 1, 0x1p53, -0x1p512, 0x1p341, 0x1p1023, greatest, -greatest}
}

// edges are the ends that the document names, wrong ones too.
func edges() []float64 {
	return []float64{-inf, -greatest, -3, -0.1, -least, signed, 0, least, 0.7, 2, greatest, inf, nan}
}

// halves are the numbers at which a step may go wrong: whole ones, halves, those next to them, and
// those about the numbers from which on all are whole.
func halves() []float64 {
	out := []float64{0, signed, least, -least}
	for _, whole := range []float64{0, 1, 2, 3, 7, 1 << 20, 1<<31 - 1, 1 << 31, 1 << 32, 1<<51 - 1, 1 << 51, 1<<52 - 1, 1 << 52, 1<<52 + 1, 1<<53 - 1, 1 << 53, 1<<53 + 2, 1 << 62, 1<<63 - 1024, 1 << 63, 1 << 64} {
		for _, g := range []float64{whole, whole + 0.25, whole + 0.5, whole + 0.75} {
			for _, h := range []float64{below(g), g, above(g)} {
				out = append(out, h, -h)
			}
		}
	}
	return append(out, 0x1p1000, -0x1p1000, greatest, -greatest)
}

// crossed tells all pairs of ends as intervals.
func crossed(ends []float64) []api.Interval {
	var out []api.Interval
	for _, lo := range ends {
		for _, hi := range ends {
			out = append(out, iv(lo, hi))
		}
	}
	return out
}

// patterns are NaNs of all kinds, and other ends on which much hangs.
func patterns() []float64 {
	out := append(edges(), some()...)
	for _, bits := range []uint64{0x7ff0000000000001, 0x7ff8000000000001, 0x7fffffffffffffff, 0xfff0000000000001, 0xfff8000000000000, 0xffffffffffffffff} {
		out = append(out, math.Float64frombits(bits))
	}
	return out
}

// eachPair hands all pairs of patterns to try, and pairs of any bits.
func eachPair(seed dice, try func(lo, hi float64)) {
	for _, lo := range patterns() {
		for _, hi := range patterns() {
			try(lo, hi)
		}
		for range 40 {
			any := math.Float64frombits(seed.next())
			try(lo, any)
			try(any, lo)
		}
	}
	for range 10000 {
		lo, hi := seed.next(), seed.next()
		try(math.Float64frombits(lo), math.Float64frombits(hi))
		try(math.Float64frombits(lo), math.Float64frombits(lo^1<<seed.below(64)))
	}
}

// eachInterval hands out intervals, wrong ones too.
func eachInterval(seed dice, try func(x api.Interval)) {
	for _, x := range crossed(append(edges(), some()...)) {
		try(x)
	}
	for range 3000 {
		try(seed.interval())
	}
}
