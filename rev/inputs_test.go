package rev_test

import (
	"math"

	"verge/api"
)

// What the tests hand in.

// dice are numbers that look like chance, the same at every run.
type dice uint64

func (d *dice) next() uint64 {
	*d ^= *d << 13
	*d ^= *d >> 7
	*d ^= *d << 17
	return uint64(*d) * 0x2545f4914f6cdd1d
}

func (d *dice) below(n int) int { return int(d.next() >> 1 % uint64(n)) }

// number tells numbers of all magnitudes, and of some more often: those about 1, and those with few
// places behind the point.
func (d *dice) number() float64 {
	sig := float64(d.next()>>11 | 1)
	if d.below(3) == 0 {
		sig = float64(d.below(40))
	}
	if d.below(2) == 0 {
		sig = -sig
	}
	switch d.below(8) {
	case 0:
		return math.Ldexp(sig, -1130+d.below(100))
	case 1:
		return math.Ldexp(sig, -1074+d.below(2045))
	case 2:
		return math.Ldexp(sig, 960+d.below(11))
	case 3, 4:
		return math.Ldexp(float64(d.below(64)-32), -d.below(3))
	}
	return math.Ldexp(sig, -60+d.below(20))
}

// end tells numbers, infinities, 0, and numbers on which much hangs.
func (d *dice) end() float64 {
	switch d.below(10) {
	case 0:
		return inf
	case 1:
		return -inf
	case 2:
		return 0
	case 3:
		return some()[d.below(len(some()))]
	}
	return d.number()
}

// ordered tells the interval of two ends; if that is Empty, Entire.
func ordered(x, y float64) api.Interval {
	if out, none := taken(iv(min(x, y), max(x, y))); !none {
		return out
	}
	return entire
}

// interval tells intervals that are not Empty, as they are read.
func (d *dice) interval() api.Interval {
	x, y := d.end(), d.end()
	switch d.below(6) {
	case 0:
		y = x
	case 1:
		y = above(x)
	case 2:
		x = 0
	}
	return ordered(x, y)
}

// next to an end, or at it.
func (d *dice) beside(x float64) float64 {
	switch d.below(4) {
	case 0:
		return above(x)
	case 1:
		return below(x)
	}
	return x
}

// touching tells an interval that begins or ends at x or beside it.
func (d *dice) touching(x float64) api.Interval {
	one := d.beside(x)
	other := d.end()
	switch d.below(4) {
	case 0:
		other = one
	case 1:
		other = above(one)
	}
	return ordered(one, other)
}

// some numbers on which much hangs.
func some() []float64 {
	return []float64{least, -least, 2 * least, -3 * least, 0x1p-1022, -0x1p-1022, 0x1p-537, 0.1, -0.1, 1. / 3, 0.5, 1, -1, above(1), below(1), -1.5, 2.5, -3, 10,
		0x1p52 - 0.5, -0x1p52 - 1, 0x1p53, -0x1p512, 0x1p970, 0x1p1023, greatest, -greatest, below(greatest)}
}

// edges are the ends that the document names, wrong ones too.
func edges() []float64 {
	return []float64{-inf, -greatest, -3, -least, signed, 0, least, 1, 2, greatest, inf, nan}
}

// crossed tells all pairs of ends as intervals.
func crossed(ends []float64) []api.Interval {
	var out []api.Interval
	for _, lo := range ends {
		for _, hi := range ends {
			out = append(out, iv(lo, hi))
		}
	}
	return out
}

// proper tells the intervals of some ends that are not read as Empty, and Empty.
func proper(ends ...float64) []api.Interval {
	out := []api.Interval{empty}
	for _, x := range crossed(ends) {
		if _, none := taken(x); !none {
			out = append(out, x)
		}
	}
	return out
}

// patterns are NaNs of all kinds, and other ends on which much hangs.
func patterns() []float64 {
	out := append(edges(), some()...)
	for _, bits := range []uint64{0x7ff0000000000001, 0x7ff8000000000001, 0x7fffffffffffffff, 0xfff0000000000001, 0xfff8000000000000, 0xffffffffffffffff} {
		out = append(out, math.Float64frombits(bits))
	}
	return out
}

// bits tells any bits as an end, or one of the patterns.
func (d *dice) bits() float64 {
	if d.below(2) == 0 {
		return patterns()[d.below(len(patterns()))]
	}
	return math.Float64frombits(d.next())
}

// wild tells an interval of any bits.
func (d *dice) wild() api.Interval {
	lo := d.bits()
	if d.below(3) == 0 {
		return iv(lo, math.Float64frombits(math.Float64bits(lo)^1<<d.below(64)))
	}
	return iv(lo, d.bits())
}

// list tells n intervals, each told by tell.
func list(n int, tell func() api.Interval) []api.Interval {
	out := make([]api.Interval, n)
	for i := range out {
		out[i] = tell()
	}
	return out
}

// eachList hands out all lists of n of the intervals.
func eachList(n int, of []api.Interval, try func(list []api.Interval)) {
	at := make([]int, n)
	for {
		out := make([]api.Interval, n)
		for i := range at {
			out[i] = of[at[i]]
		}
		try(out)
		i := 0
		for ; i < n; i++ {
			if at[i]++; at[i] < len(of) {
				break
			}
			at[i] = 0
		}
		if i == n {
			return
		}
	}
}

// halves are the numbers at which a step may go wrong: whole ones, halves, those next to them, and
// those about the numbers from which on all are whole.
func halves() []float64 {
	out := []float64{0, least, -least, -inf, inf, greatest, -greatest, below(greatest), 0x1p1000}
	for _, n := range []float64{0, 1, 2, 3, 1 << 31, 1 << 51, 1<<52 - 1, 1 << 52, 1<<52 + 1, 1<<53 - 1, 1 << 53, 1<<53 + 2, 1 << 62, 1 << 64} {
		for _, g := range []float64{n, n + 0.25, n + 0.5} {
			for _, h := range []float64{below(g), g, above(g)} {
				out = append(out, h, -h)
			}
		}
	}
	return out
}
