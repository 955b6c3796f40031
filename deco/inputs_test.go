package deco_test

import (
	"math"

	"verge/api"
)

// What the tests hand in.

// dice are numbers that look like chance, the same at every run.
type dice uint64

func (d *dice) next() uint64 {
	*d ^= *d << 13
	*d ^= *d >> 7
	*d ^= *d << 17
	return uint64(*d) * 0x2545f4914f6cdd1d
}

func (d *dice) below(n int) int { return int(d.next() >> 1 % uint64(n)) }

// number tells numbers of all magnitudes, and of some more often: those about 1, and those with few
// places behind the point.
func (d *dice) number() float64 {
	sig := float64(d.next()>>11 | 1)
	if d.below(3) == 0 {
		sig = float64(d.below(40))
	}
	if d.below(2) == 0 {
		sig = -sig
	}
	switch d.below(8) {
	case 0:
		return math.Ldexp(sig, -1130+d.below(100))
	case 1:
		return math.Ldexp(sig, -1074+d.below(2045))
	case 2:
		return math.Ldexp(sig, 960+d.below(11))
	case 3, 4:
		return math.Ldexp(float64(d.below(64)-32), -d.below(3))
	}
	return math.Ldexp(sig, -60+d.below(20))
}

// end tells numbers, infinities, 0, and numbers on which much hangs.
func (d *dice) end() float64 {
	switch d.below(10) {
	case 0:
		return inf
	case 1:
		return -inf
	case 2:
		return 0
	case 3:
		return some()[d.below(len(some()))]
	}
	return d.number()
}

// ordered tells the interval of two ends; if that is Empty, Entire.
func ordered(x, y float64) api.Interval {
	if out, none := taken(iv(min(x, y), max(x, y))); !none {
		return out
	}
	return entire
}

// interval tells intervals that are not Empty, as they are read.
func (d *dice) interval() api.Interval {
	x, y := d.end(), d.end()
	switch d.below(6) {
	case 0:
		y = x
	case 1:
		y = above(x)
	case 2:
		x = 0
	}
	return ordered(x, y)
}

// narrow tells intervals that are not Empty, between whose ends a step seldom leaps.
func (d *dice) narrow() api.Interval {
	x := some()[d.below(len(some()))]
	if d.below(2) == 0 {
		x = math.Ldexp(float64(d.below(64)-32), -d.below(4))
	}
	return ordered(x, x+float64(d.below(5))/8)
}

// some numbers on which much hangs.
func some() []float64 {
	return []float64{least, -least, 2 * least, -3 * least, 0x1p-1022, -0x1p-1022, 0x1p-537, 0.1, -0.1, 1. / 3, 0.5, 1, -1, above(1), below(1), -1.5, 2.5, -3, 10,
		0x1p52 - 0.5, -0x1p52 - 1, 0x1p53, -0x1p512, 0x1p970, 0x1p1023, greatest, -greatest, below(greatest)}
}

// edges are the ends that the document names, wrong ones too.
func edges() []float64 {
	return []float64{-inf, -greatest, -3, -least, signed, 0, least, 1, 2, greatest, inf, nan}
}

// crossed tells all pairs of ends as intervals.
func crossed(ends []float64) []api.Interval {
	var out []api.Interval
	for _, lo := range ends {
		for _, hi := range ends {
			out = append(out, iv(lo, hi))
		}
	}
	return out
}

// proper tells the intervals of some ends that are not read as Empty, and Empty.
func proper(ends ...float64) []api.Interval {
	out := []api.Interval{empty}
	for _, x := range crossed(ends) {
		if _, none := taken(x); !none {
			out = append(out, x)
		}
	}
	return out
}

// patterns are NaNs of all kinds, and other ends on which much hangs.
func patterns() []float64 {
	out := append(edges(), some()...)
	for _, bits := range []uint64{0x7ff0000000000001, 0x7ff8000000000001, 0x7fffffffffffffff, 0xfff0000000000001, 0xfff8000000000000, 0xffffffffffffffff} {
		out = append(out, math.Float64frombits(bits))
	}
	return out
}

// bits tells any bits as an end, or one of the patterns.
func (d *dice) bits() float64 {
	if d.below(2) == 0 {
		return patterns()[d.below(len(patterns()))]
	}
	return math.Float64frombits(d.next())
}

// wild tells an interval of any bits.
func (d *dice) wild() api.Interval {
	lo := d.bits()
	if d.below(3) == 0 {
		return iv(lo, math.Float64frombits(math.Float64bits(lo)^1<<d.below(64)))
	}
	return iv(lo, d.bits())
}

// list tells n things, each told by tell.
func list[T any](n int, tell func() T) []T {
	out := make([]T, n)
	for i := range out {
		out[i] = tell()
	}
	return out
}

// eachList hands out all lists of n of the things.
func eachList[T any](n int, of []T, try func(list []T)) {
	at := make([]int, n)
	for {
		out := make([]T, n)
		for i := range at {
			out[i] = of[at[i]]
		}
		try(out)
		i := 0
		for ; i < n; i++ {
			if at[i]++; at[i] < len(of) {
				break
			}
			at[i] = 0
		}
		if i == n {
			return
		}
	}
}

// halves are the numbers at which a step may go wrong: whole ones, halves, those next to them, and
// those about the numbers from which on all are whole.
func halves() []float64 {
	out := []float64{0, least, -least, -inf, inf, greatest, -greatest, below(greatest), 0x1p1000}
	for _, n := range []float64{0, 1, 2, 3, 1 << 31, 1 << 51, 1<<52 - 1, 1 << 52, 1<<52 + 1, 1<<53 - 1, 1 << 53, 1<<53 + 2, 1 << 62, 1 << 64} {
		for _, g := range []float64{n, n + 0.25, n + 0.5} {
			for _, h := range []float64{below(g), g, above(g)} {
				out = append(out, h, -h)
			}
		}
	}
	return out
}

// ranks are the decorations that an interval may have; strays are numbers that are none, and Ill.
func ranks() []int { return []int{api.Com, api.Dac, api.Def, api.Trv} }

func strays() []int {
	return []int{api.Ill, math.MinInt, -16, -12, -8, -4, -1, 1, 2, 3, 5, 6, 7, 9, 10, 11, 13, 15, 17, 20, 24, 32, 256, 1<<16 + 16, math.MaxInt}
}

func numbers() []int { return append(ranks(), strays()...) }

// decorated tells one that is not read as NaI.
func (d *dice) decorated() api.Deco {
	x := d.interval()
	switch d.below(8) {
	case 0:
		x = empty
	case 1:
		x = iv(signed, max(0, d.number()))
	case 2, 3:
		x = d.narrow()
	}
	return api.Deco{X: x, D: ranks()[d.below(4)]}
}

// strange tells one of any bits, with a decoration that may be none.
func (d *dice) strange() api.Deco {
	x := api.Deco{X: d.wild(), D: ranks()[d.below(4)]}
	if d.below(6) == 0 {
		x.D = numbers()[d.below(len(numbers()))]
	}
	return x
}

// ills are decorated ones that are read as NaI.
func ills() []api.Deco {
	return []api.Deco{nai, {X: iv(1, 2), D: api.Ill}, {X: iv(1, 2), D: 5}, {X: entire, D: -4}, {X: empty, D: math.MinInt}, {X: empty, D: 20},
		{X: iv(2, 1), D: api.Com}, {X: iv(nan, 1), D: api.Def}, {X: iv(1, nan), D: api.Trv}, {X: iv(inf, inf), D: api.Dac}, {X: iv(-inf, -inf), D: api.Trv}}
}

// beyond are powers above MaxPow and below -MaxPow.
func beyond() []int {
	return []int{math.MinInt, math.MinInt + 1, -1 << 31, -2048, -1026, -1025, 1025, 1026, 2048, 1<<31 - 1, math.MaxInt - 1, math.MaxInt}
}

// strangers are numbers of operations that are none.
func strangers() []int {
	return []int{math.MinInt, -1 << 31, -4, -1, 0, api.OpConst, api.OpRoundAway + 1, api.OpRoundAway + 2, 32, 64, 256 + api.OpAdd, 1<<16 + api.OpAdd, 1<<31 - 1, math.MaxInt}
}
