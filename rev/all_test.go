package rev_test

import (
	"testing"

	"verge/api"
)

// P10.1, all calls at all lists of a few ends, at the edges, by chance, at any bit patterns.

// All signs, and all ways in which an end may be 0 or infinite.
func TestAllSigns(t *testing.T) {
	for _, f := range calls() {
		few := proper(-inf, -2, -1, 0, 1, 3, inf)
		if f.others == 3 {
			few = proper(-inf, -1, 0, 2, inf)
		}
		eachList(f.others+1, few, func(list []api.Interval) { f.check(t, list[0], list[1:]...) })
	}
}

// Wrong ends, and the greatest and the least: each argument in its turn, the others ordinary ones.
func TestEdges(t *testing.T) {
	d := dice(10001)
	for _, f := range calls() {
		for range 2 {
			for at := range f.others + 1 {
				args := list(f.others+1, d.interval)
				for _, x := range crossed(edges()) {
					args[at] = x
					f.check(t, args[0], args[1:]...)
				}
			}
		}
	}
}

func TestPairsOfEdges(t *testing.T) {
	for _, f := range unaries() {
		for _, c := range crossed(edges()) {
			for _, x := range crossed(edges()) {
				f.check(t, x, c)
			}
		}
	}
}

// ends tells where the parts of a call's set may begin and end: what is left of all reals, of those
// from 0 on, and of those up to 0.
func (f call) ends(others []api.Interval) []float64 {
	var out []float64
	for _, x := range []api.Interval{entire, iv(0, inf), iv(-inf, 0)} {
		if part := f.got(others, x); part != empty {
			out = append(out, part.Lo, part.Hi)
		}
	}
	return out
}

func TestByChance(t *testing.T) {
	d := dice(10002)
	for _, f := range calls() {
		for range 400 {
			others := list(f.others, d.interval)
			f.check(t, entire, others...)
			f.check(t, d.interval(), others...)
			f.check(t, d.touching(0), others...)
			ends := f.ends(others)
			for _, end := range ends {
				f.check(t, d.touching(end), others...)
				f.check(t, ordered(d.beside(end), d.beside(ends[d.below(len(ends))])), others...)
			}
		}
	}
}

// Narrow arguments: the set, or a part of it, may lie between two numbers.
func TestNarrow(t *testing.T) {
	d := dice(10003)
	narrow := func() api.Interval {
		x := d.number()
		return ordered(x, d.beside(x))
	}
	for _, f := range calls() {
		for range 200 {
			others := list(f.others, narrow)
			f.check(t, entire, others...)
			for _, end := range f.ends(others) {
				for _, x := range []api.Interval{iv(end, end), iv(-inf, end), iv(end, inf), iv(end, above(end)), iv(below(end), end), iv(above(end), inf), iv(-inf, below(end))} {
					f.check(t, x, others...)
				}
			}
		}
	}
}

func TestAnyBits(t *testing.T) {
	d := dice(10004)
	for _, f := range calls() {
		for range 1500 {
			f.check(t, d.wild(), list(f.others, d.wild)...)
		}
	}
}
