package fold_test

import (
	"fmt"
	"math"
	"slices"

	"verge/api"
)

// Lists for the tests.

// shown tells a list, of a long one its beginning.
func shown(l list) string {
	if len(l) > 6 {
		return fmt.Sprintf("%x and so on, %d", l[:6], len(l))
	}
	return fmt.Sprintf("%x", l)
}

// dice are numbers that look like chance, the same at every run.
type dice uint64

func (d *dice) next() uint64 {
	*d ^= *d << 13
	*d ^= *d >> 7
	*d ^= *d << 17
	return uint64(*d) * 0x2545f4914f6cdd1d
}

func (d *dice) below(n int) int { return int(d.next() >> 1 % uint64(n)) }

func pick[T any](d *dice, l ...T) T { return l[d.below(len(l))] }

// number tells numbers of all magnitudes and both signs, of some magnitudes more often, with many
// bits or few.
func (d *dice) number() float64 {
	sig := d.next()>>11 | 1<<52
	if d.below(2) == 0 {
		sig = 1<<52 | 1<<d.below(52) | 1<<d.below(52)
	}
	exp := pick(d, -1130+d.below(130), 900+d.below(71), -1074+d.below(2046), -60+d.below(20))
	return math.Ldexp(float64(sig), exp) * pick(d, -1.0, 1)
}

// end tells a number, or one of those at which something changes.
func (d *dice) end() float64 {
	if d.below(4) == 0 {
		return pick(d, ends()...)
	}
	return d.number()
}

// ends are the ends at which something changes.
func ends() []float64 {
	return []float64{-inf, -greatest, -0x1p970, -1.5, -1, -e, -0x1p-1022, -least, signed, 0, least, 0x1p-1022, e / 2, 1, 1 + e, 3, 0x1p970, greatest, inf}
}

// interval tells one that is not Empty.
func (d *dice) interval() api.Interval {
	for {
		x, y := d.end(), d.end()
		if z := asRead(iv(min(x, y), max(x, y))); z != empty {
			return iv(min(x, y), max(x, y))
		}
	}
}

// near tells one with ends about 1 in magnitude, often on both sides of 0, so that products are
// hard to tell apart.
func (d *dice) near() api.Interval {
	x, y := 1+float64(d.below(8))*e, 1+float64(d.below(8))*e
	return pick(d, iv(-x, y), iv(-x, y), iv(min(x, y), max(x, y)), iv(-max(x, y), -min(x, y)))
}

// point tells one that holds a single number.
func (d *dice) point() api.Interval { return pt(d.number()) }

// bounded tells one whose ends are numbers.
func (d *dice) bounded() api.Interval {
	x, y := d.number(), d.number()
	return iv(min(x, y), max(x, y))
}

// wild tells any bit patterns.
func (d *dice) wild() api.Interval {
	bits := func() float64 {
		if d.below(3) == 0 {
			return pick(d, append(nans(), ends()...)...)
		}
		return math.Float64frombits(d.next())
	}
	return iv(bits(), bits())
}

// nans are NaNs of many bits: quiet, signalling, of either sign.
func nans() []float64 {
	var out []float64
	for _, bits := range []uint64{0x7ff8000000000001, 0x7ff8000000000000, 0x7ff0000000000001, 0x7fffffffffffffff, 0xfff8000000000000, 0xfff0000000000001, 0xffffffffffffffff, 0x7ff4000000000000} {
		out = append(out, math.Float64frombits(bits))
	}
	return out
}

// wrong are intervals that are read as Empty, Empty's own pair first.
func wrong() list {
	out := list{empty, iv(2, 1), iv(least, 0), iv(least, signed), iv(0, -least), iv(inf, inf), iv(-inf, -inf), iv(1, -inf), iv(inf, 1), iv(greatest, -greatest), iv(1+e, 1)}
	for _, x := range nans() {
		out = append(out, iv(x, 1), iv(1, x), iv(x, x), iv(-inf, x), iv(x, inf), iv(x, -x))
	}
	return out
}

// list tells n of what tell tells.
func (d *dice) list(n int, tell func() api.Interval) list {
	out := make(list, 0, n)
	for range n {
		out = append(out, tell())
	}
	return out
}

// cancelled tells a list most of whose parts stand in it a second time, turned.
func (d *dice) cancelled(n int) list {
	l := d.list(n, d.bounded)
	for _, x := range l {
		if d.below(5) > 0 {
			l = append(l, iv(-x.Hi, -x.Lo))
		}
	}
	return d.shuffled(l)
}

func (d *dice) shuffled(l list) list {
	l = slices.Clone(l)
	for i := range l {
		j := i + d.below(len(l)-i)
		l[i], l[j] = l[j], l[i]
	}
	return l
}

// all tells the intervals that hold something, with two of some ends.
func all(ends ...float64) list {
	var out list
	for _, x := range ends {
		for _, y := range ends {
			if asRead(iv(x, y)) != empty {
				out = append(out, iv(x, y))
			}
		}
	}
	return out
}
