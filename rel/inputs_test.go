package rel_test

import (
	"math"

	"verge/api"
)

// What the tests hand in.

// dice are numbers that look like chance, the same at every run.
type dice uint64

func (d *dice) next() uint64 {
	*d ^= *d << 13
	*d ^= *d >> 7
	*d ^= *d << 17
	return uint64(*d) * 0x2545f4914f6cdd1d
}

func (d *dice) below(n int) int { return int(d.next() >> 1 % uint64(n)) }

// number tells numbers of all magnitudes, the least, those about 1 and the greatest more often.
func (d *dice) number() float64 {
	x := math.Ldexp(float64(d.next()>>11), -53)
	switch d.below(4) {
	case 0:
		x = math.Ldexp(x, -1021+d.below(2045))
	case 1:
		x = float64(d.below(16)) * least
	case 2:
		x = math.Ldexp(x, 1024-d.below(4))
	}
	if d.below(2) == 0 {
		return -x
	}
	return x
}

// end tells numbers and, now and then, infinities and numbers on which much hangs.
func (d *dice) end() float64 {
	switch d.below(12) {
	case 0:
		return inf
	case 1:
		return -inf
	case 2, 3:
		return some()[d.below(len(some()))]
	}
	return d.number()
}

// beside tells an end that is the same as x, or lies not far from it, or mirrored, or anywhere.
func (d *dice) beside(x float64) float64 {
	switch d.below(6) {
	case 0, 1:
		return x
	case 2:
		return -x
	case 3:
		for range d.below(4) {
			x = above(x)
		}
		return x
	case 4:
		for range d.below(4) {
			x = below(x)
		}
		return x
	}
	return d.end()
}

// interval tells intervals that are not Empty, as they are read.
func (d *dice) interval() api.Interval {
	for {
		x := d.end()
		y := d.end()
		if d.below(3) == 0 {
			y = d.beside(x)
		}
		if out, none := taken(iv(min(x, y), max(x, y))); !none {
			return out
		}
	}
}

// other tells an interval of which each end lies beside one of x.
func (d *dice) other(x api.Interval) api.Interval {
	ends := []float64{x.Lo, x.Hi}
	for {
		one, two := d.beside(ends[d.below(2)]), d.beside(ends[d.below(2)])
		if out, none := taken(iv(min(one, two), max(one, two))); !none {
			return out
		}
	}
}

// some numbers on which much hangs.
func some() []float64 {
	return []float64{least, -least, 2 * least, -2 * least, 3 * least, -3 * least, 0x1p-1022, -0x1p-1022, below(0x1p-1022), above(-0x1p-1022), 0.1, -0.1, 0.5, 1, -1, above(1), below(1), above(-1), below(-1),
		1 + 0x1p-51, 1.5, -1.5, -2, 3, 0x1p53, -0x1p53, 0x1p512, -0x1p512, 0x1p970, -0x1p970, 0x1p1023, -0x1p1023, above(0x1p1023), below(0x1p1023), greatest, -greatest, below(greatest), above(-greatest)}
}

// edges are the ends that the document names, wrong ones too.
func edges() []float64 {
	return []float64{-inf, -greatest, -3, -least, signed, 0, least, 1, 2, greatest, inf, nan}
}

// few ends make all the orders in which two intervals may lie, or three.
func few() []float64 { return []float64{-inf, -1, 0, 1, 2, inf} }

// crossed tells all pairs of ends as intervals.
func crossed(ends []float64) []api.Interval {
	var out []api.Interval
	for _, lo := range ends {
		for _, hi := range ends {
			out = append(out, iv(lo, hi))
		}
	}
	return out
}

// patterns are NaNs of all kinds, and other ends on which much hangs.
func patterns() []float64 {
	out := append(edges(), some()...)
	for _, bits := range []uint64{0x7ff0000000000001, 0x7ff8000000000001, 0x7fffffffffffffff, 0xfff0000000000001, 0xfff8000000000000, 0xffffffffffffffff} {
		out = append(out, math.Float64frombits(bits))
	}
	return out
}

// eachPattern hands all pairs of patterns to try as ends, and pairs of any bits.
func eachPattern(seed dice, try func(x api.Interval)) {
	for _, lo := range patterns() {
		for _, hi := range patterns() {
			try(iv(lo, hi))
		}
		for range 20 {
			any := math.Float64frombits(seed.next())
			try(iv(lo, any))
			try(iv(any, lo))
		}
	}
	for range 4000 {
		lo, hi := seed.next(), seed.next()
		try(iv(math.Float64frombits(lo), math.Float64frombits(hi)))
		try(iv(math.Float64frombits(lo), math.Float64frombits(lo^1<<seed.below(64))))
	}
}

// eachTwo hands out pairs: all of the edges, and by chance such as share ends or lie side by side.
func eachTwo(seed dice, try func(x, y api.Interval)) {
	for _, x := range crossed(edges()) {
		for _, y := range crossed(edges()) {
			try(x, y)
		}
	}
	for range 10000 {
		x := seed.interval()
		try(x, seed.other(x))
		try(x, seed.interval())
	}
}

// eachThree hands out triples: all of a few ends, in all orders, and some by chance.
func eachThree(seed dice, try func(x, y, z api.Interval)) {
	for _, x := range crossed(few()) {
		for _, y := range crossed(few()) {
			for _, z := range crossed(few()) {
				try(x, y, z)
			}
		}
	}
	for range 10000 {
		x := seed.interval()
		y := seed.other(x)
		try(x, y, seed.other(y))
		try(x, seed.other(x), seed.other(x))
	}
}
