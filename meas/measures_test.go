package meas_test

import (
	"math"
	"testing"

	"verge/api"
	"verge/meas"
)

// P8.1 to P8.6

func TestAllPairsOfEdges(t *testing.T) {
	for _, x := range crossed(append(edges(), some()...)) {
		checkAll(t, x)
	}
}

func TestIntervalsByChance(t *testing.T) {
	d := dice(8001)
	for range 20000 {
		checkAll(t, d.interval())
	}
}

func TestNeighbours(t *testing.T) {
	for _, lo := range some() {
		for hi, n := lo, 0; n < 6 && hi < inf; hi, n = above(hi), n+1 {
			checkAll(t, iv(lo, hi))
		}
	}
}

func TestSmallIntervals(t *testing.T) {
	for a := -12; a <= 12; a++ {
		for b := a; b <= 12; b++ {
			checkAll(t, iv(float64(a)*least, float64(b)*least))
			checkAll(t, iv(float64(a)*least, 0x1p-1022+float64(b)*least))
			checkAll(t, iv(float64(a)*least, 0x1p-1021+float64(b)*0x1p-1074))
			checkAll(t, iv(-0x1p-1021+float64(a)*least, float64(b)*least))
		}
	}
}

// All bit patterns at each end: what is no interval measures as Empty does.
func TestAllPatterns(t *testing.T) {
	eachPair(8002, func(lo, hi float64) {
		x := iv(lo, hi)
		for _, m := range measures() {
			got := m.got(x)
			is(t, got, m.want(x), "%s({%x, %x})", m.name, lo, hi)
			if got == 0 && math.Signbit(got) {
				t.Errorf("%s({%x, %x}) is -0", m.name, lo, hi)
			}
		}
		for _, y := range []api.Interval{iv(hi, lo), iv(lo, lo), iv(-inf, hi), iv(0, 1)} {
			checkDist(t, x, y)
			checkDist(t, y, x)
		}
	})
}

func TestDistOfEdges(t *testing.T) {
	for _, x := range crossed(edges()) {
		for _, y := range crossed(edges()) {
			checkDist(t, x, y)
		}
	}
}

func TestDistByChance(t *testing.T) {
	d := dice(8003)
	for range 20000 {
		x := d.interval()
		checkDist(t, x, d.other(x))
		checkDist(t, x, d.interval())
	}
}

// The edges that the document names, written out.

type row struct {
	name      string
	got, want float64
}

func checkRows(t *testing.T, rows []row) {
	t.Helper()
	for _, c := range rows {
		is(t, c.got, c.want, "%s", c.name)
	}
}

func TestEdgesOfEnds(t *testing.T) {
	checkRows(t, []row{
		{"Inf", meas.Inf(iv(-2, 3)), -2},
		{"Sup", meas.Sup(iv(-2, 3)), 3},
		{"Inf of Entire", meas.Inf(entire), -inf},
		{"Sup of Entire", meas.Sup(entire), inf},
		{"Inf of a half-line", meas.Inf(iv(2, inf)), 2},
		{"Sup of a half-line", meas.Sup(iv(2, inf)), inf},
		{"Sup of -0", meas.Sup(iv(-1, signed)), 0},
		{"Inf of ends in the wrong order", meas.Inf(iv(2, 1)), inf},
		{"Sup of ends in the wrong order", meas.Sup(iv(2, 1)), -inf},
		{"Inf of a NaN above", meas.Inf(iv(1, nan)), inf},
		{"Sup of a NaN below", meas.Sup(iv(nan, 1)), -inf},
		{"Inf of -Inf alone", meas.Inf(iv(-inf, -inf)), inf},
		{"Sup of +Inf alone", meas.Sup(iv(inf, inf)), -inf},
	})
}

func TestEdgesOfMid(t *testing.T) {
	const big, tiny, top = greatest, least, 0x1p1023
	checkRows(t, []row{
		{"ends in the wrong order", meas.Mid(iv(3, 1)), nan},
		{"-Inf alone", meas.Mid(iv(-inf, -inf)), nan},
		{"+Inf alone", meas.Mid(iv(inf, inf)), nan},
		{"Lo infinite, Hi above 0", meas.Mid(iv(-inf, 5)), -big},
		{"Lo infinite, Hi the least number", meas.Mid(iv(-inf, -big)), -big},
		{"Lo infinite, Hi the greatest", meas.Mid(iv(-inf, big)), -big},
		{"Hi infinite, Lo below 0", meas.Mid(iv(-5, inf)), big},
		{"Hi infinite, Lo the greatest", meas.Mid(iv(big, inf)), big},
		{"Hi infinite, Lo the least number", meas.Mid(iv(-big, inf)), big},
		{"a sum beyond the greatest", meas.Mid(iv(top, top)), top},
		{"one below the least", meas.Mid(iv(-big, -big)), -big},
		{"one beyond it, midway, the even one above", meas.Mid(iv(top, big)), 0x1.8p1023},
		{"one beyond it, midway, the even one below", meas.Mid(iv(top, above(top))), top},
		{"one beyond it, midway, once more above", meas.Mid(iv(above(top), above(above(top)))), above(above(top))},
		{"one below it, midway", meas.Mid(iv(-big, -top)), -0x1.8p1023},
		{"the least sum that is rounded to +Inf", meas.Mid(iv(0x1p970, big)), top},
		{"the greatest that is not", meas.Mid(iv(below(0x1p970), big)), big / 2},
		{"the same below 0", meas.Mid(iv(-big, -0x1p970)), -top},
		{"of next to the greatest", meas.Mid(iv(below(big), big)), below(big)},
		{"a sum of 0", meas.Mid(iv(-3, 3)), 0},
		{"a sum of 0 of the least", meas.Mid(iv(-tiny, tiny)), 0},
		{"of {0, 0}", meas.Mid(iv(0, 0)), 0},
		{"of {-0, -0}", meas.Mid(iv(signed, signed)), 0},
		{"of {-0, 3}", meas.Mid(iv(signed, 3)), 1.5},
		{"midway, the even one above", meas.Mid(iv(1+0x1p-52, 1+0x1p-51)), 1 + 0x1p-51},
		{"midway below 0, the even one above", meas.Mid(iv(-1-0x1p-52, -1)), -1},
		{"midway below 0, the even one below", meas.Mid(iv(-1-0x1p-51, -1-0x1p-52)), -1 - 0x1p-51},
		{"just below midway", meas.Mid(iv(0x1p-52-0x1p-100, 2)), 1},
		{"just above midway", meas.Mid(iv(0x1p-52+0x1p-100, 2)), 1 + 0x1p-52},
		{"midway over far exponents", meas.Mid(iv(0x1p-52, 2)), 1},
		{"a sum that is rounded to one with an odd significand", meas.Mid(iv(tiny, 2+0x1p-51)), 1 + 0x1p-52},
		{"half of the least, below 0", meas.Mid(iv(-tiny, 0)), 0},
		{"half of the least, across 0", meas.Mid(iv(-2*tiny, tiny)), 0},
		{"half of three, above", meas.Mid(iv(tiny, 2*tiny)), 2 * tiny},
		{"half of five, above", meas.Mid(iv(2*tiny, 3*tiny)), 2 * tiny},
		{"half of three, below 0", meas.Mid(iv(-2*tiny, -tiny)), -2 * tiny},
		{"half of seven", meas.Mid(iv(-7*tiny, 0)), -4 * tiny},
		{"below the least normal, exact", meas.Mid(iv(0, 0x1p-1022)), 0x1p-1023},
		{"below the least normal, midway", meas.Mid(iv(tiny, 0x1p-1022)), 0x1p-1023},
		{"below it, midway, the even one above", meas.Mid(iv(3*tiny, 0x1p-1022)), 0x1p-1023 + 2*tiny},
		{"next to the least normal", meas.Mid(iv(below(0x1p-1022), 0x1p-1022)), 0x1p-1022},
		{"midway at the least normal", meas.Mid(iv(tiny, 0x1p-1021)), 0x1p-1022},
		{"midway above the least normal", meas.Mid(iv(3*tiny, 0x1p-1021)), 0x1p-1022 + 2*tiny},
	})
}

func TestEdgesOfRad(t *testing.T) {
	const big, tiny, top = greatest, least, 0x1p1023
	checkRows(t, []row{
		{"a NaN", meas.Rad(iv(1, nan)), nan},
		{"ends in the wrong order", meas.Rad(iv(2, 1)), nan},
		{"Entire", meas.Rad(entire), inf},
		{"Lo infinite", meas.Rad(iv(-inf, 7)), inf},
		{"Lo infinite, Hi the least number", meas.Rad(iv(-inf, -big)), inf},
		{"Hi infinite", meas.Rad(iv(-7, inf)), inf},
		{"Hi infinite, Lo the greatest", meas.Rad(iv(big, inf)), inf},
		{"one number", meas.Rad(iv(0.1, 0.1)), 0},
		{"{-0, 0}", meas.Rad(iv(signed, 0)), 0},
		{"Mid rounded down", meas.Rad(iv(1, 1+0x1p-52)), 0x1p-52},
		{"Mid rounded up", meas.Rad(iv(1+0x1p-52, 1+0x1p-51)), 0x1p-52},
		{"Mid rounded up, far exponents", meas.Rad(iv(-1, 3*0x1p-54)), 0.5 + 0x1p-53},
		{"Mid rounded down, far exponents", meas.Rad(iv(-3*0x1p-54, 1)), 0.5 + 0x1p-53},
		{"Mid rounded down below 0", meas.Rad(iv(-1, -tiny)), 0.5},
		{"Mid rounded up above 0", meas.Rad(iv(tiny, 1)), 0.5},
		{"Mid rounded up to 0", meas.Rad(iv(-tiny, 0)), tiny},
		{"Mid rounded away from 0", meas.Rad(iv(-2*tiny, -tiny)), tiny},
		{"rounded up", meas.Rad(iv(-0x1p-53, 1)), 0.5 + 0x1p-53},
		{"rounded up to a power of two", meas.Rad(iv(-tiny, big)), top},
		{"rounded up, turned", meas.Rad(iv(-big, tiny)), top},
		{"rounded up to the greatest", meas.Rad(iv(-big, below(big))), big},
		{"about the greatest", meas.Rad(iv(below(big), big)), 0x1p971},
		{"of a sum beyond the greatest", meas.Rad(iv(top, big)), 0x1p1022},
		{"all numbers", meas.Rad(iv(-big, big)), big},
	})
}

func TestEdgesOfWid(t *testing.T) {
	const big, tiny = greatest, least
	checkRows(t, []row{
		{"a NaN", meas.Wid(iv(nan, nan)), nan},
		{"+Inf alone", meas.Wid(iv(inf, inf)), nan},
		{"Lo infinite", meas.Wid(iv(-inf, -3)), inf},
		{"Hi infinite", meas.Wid(iv(3, inf)), inf},
		{"one number", meas.Wid(iv(-0.1, -0.1)), 0},
		{"{-0, 0}", meas.Wid(iv(signed, 0)), 0},
		{"{0, -0}", meas.Wid(iv(0, signed)), 0},
		{"exact", meas.Wid(iv(-1.5, 2.25)), 3.75},
		{"exact and small", meas.Wid(iv(0x1p-1022, above(0x1p-1022))), tiny},
		{"exact up to the greatest", meas.Wid(iv(-big/2, big/2)), big},
		{"rounded up", meas.Wid(iv(-0x1p-60, 1)), 1 + 0x1p-52},
		{"rounded up, less than 1", meas.Wid(iv(tiny, 1)), 1},
		{"rounded up, next to midway", meas.Wid(iv(-0x1p-53, 1)), 1 + 0x1p-52},
		{"rounded up from just below the greatest", meas.Wid(iv(tiny, big)), big},
		{"rounded up beyond the greatest", meas.Wid(iv(-tiny, big)), inf},
		{"rounded up beyond it, turned", meas.Wid(iv(-big, tiny)), inf},
		{"beyond the greatest", meas.Wid(iv(-big, big)), inf},
		{"2^1024", meas.Wid(iv(-0x1p1023, 0x1p1023)), inf},
	})
}

func TestEdgesOfMagnitudes(t *testing.T) {
	const big, tiny = greatest, least
	checkRows(t, []row{
		{"Mag below 0", meas.Mag(iv(-3, -2)), 3},
		{"Mig below 0", meas.Mig(iv(-3, -2)), 2},
		{"Mag above 0", meas.Mag(iv(2, 3)), 3},
		{"Mig above 0", meas.Mig(iv(2, 3)), 2},
		{"Mag about 0, the lower end farther", meas.Mag(iv(-3, 2)), 3},
		{"Mag about 0, the upper end farther", meas.Mag(iv(-2, 3)), 3},
		{"Mag about 0, both as far", meas.Mag(iv(-2, 2)), 2},
		{"Mig about 0", meas.Mig(iv(-tiny, tiny)), 0},
		{"Mag up to 0", meas.Mag(iv(-3, 0)), 3},
		{"Mig up to 0", meas.Mig(iv(-3, 0)), 0},
		{"Mig up to -0", meas.Mig(iv(-3, signed)), 0},
		{"Mag from 0 on", meas.Mag(iv(0, 3)), 3},
		{"Mig from 0 on", meas.Mig(iv(0, 3)), 0},
		{"Mig from -0 on", meas.Mig(iv(signed, 3)), 0},
		{"Mag of {-0, -0}", meas.Mag(iv(signed, signed)), 0},
		{"Mig of {-0, -0}", meas.Mig(iv(signed, signed)), 0},
		{"Mag of the least", meas.Mag(iv(-tiny, -tiny)), tiny},
		{"Mig of the least", meas.Mig(iv(-tiny, -tiny)), tiny},
		{"Mig of the greatest", meas.Mig(iv(-big, -big)), big},
		{"Mag, Lo infinite", meas.Mag(iv(-inf, -3)), inf},
		{"Mig, Lo infinite", meas.Mig(iv(-inf, -3)), 3},
		{"Mag, Lo infinite, about 0", meas.Mag(iv(-inf, 3)), inf},
		{"Mig, Lo infinite, about 0", meas.Mig(iv(-inf, 3)), 0},
		{"Mag, Hi infinite", meas.Mag(iv(3, inf)), inf},
		{"Mig, Hi infinite", meas.Mig(iv(3, inf)), 3},
		{"Mig, Hi infinite, from 0 on", meas.Mig(iv(0, inf)), 0},
		{"Mag of a NaN", meas.Mag(iv(1, nan)), nan},
		{"Mig of a NaN", meas.Mig(iv(1, nan)), nan},
		{"Mag of ends in the wrong order", meas.Mag(iv(3, -3)), nan},
		{"Mig of ends in the wrong order", meas.Mig(iv(3, -3)), nan},
	})
}

func TestEdgesOfDist(t *testing.T) {
	const big, tiny = greatest, least
	checkRows(t, []row{
		{"Empty and Empty", meas.Dist(empty, empty), nan},
		{"with Empty", meas.Dist(iv(1, 2), empty), nan},
		{"Entire and Empty", meas.Dist(entire, empty), nan},
		{"a NaN", meas.Dist(iv(1, nan), iv(1, 2)), nan},
		{"ends in the wrong order", meas.Dist(iv(1, 2), iv(2, 1)), nan},
		{"the same", meas.Dist(iv(1, 2), iv(1, 2)), 0},
		{"the same half-lines below", meas.Dist(iv(-inf, 2), iv(-inf, 2)), 0},
		{"the same half-lines above", meas.Dist(iv(2, inf), iv(2, inf)), 0},
		{"{-0, 0} and {0, 0}", meas.Dist(iv(signed, 0), iv(0, 0)), 0},
		{"half-lines below", meas.Dist(iv(-inf, 2), iv(-inf, -5)), 7},
		{"half-lines to either side", meas.Dist(iv(-inf, 2), iv(2, inf)), inf},
		{"one infinite end below", meas.Dist(iv(-inf, 2), iv(1, 2)), inf},
		{"one infinite end above", meas.Dist(iv(1, 2), iv(1, inf)), inf},
		{"Entire and a half-line", meas.Dist(entire, iv(0, inf)), inf},
		{"Entire and one number", meas.Dist(iv(0, 0), entire), inf},
		{"the lower ends farther", meas.Dist(iv(-3, 5), iv(1, 6)), 4},
		{"the upper ends farther", meas.Dist(iv(-3, 5), iv(-2, 1)), 4},
		{"the lower ends alone", meas.Dist(iv(0, 5), iv(2, 5)), 2},
		{"the upper ends alone", meas.Dist(iv(0, 5), iv(0, 3)), 2},
		{"rounded up below", meas.Dist(iv(-tiny, 1), iv(1, 1)), 1 + 0x1p-52},
		{"rounded up above", meas.Dist(iv(0, 1), iv(0, 1+0x1p-52)), 0x1p-52},
		{"rounded up above, far exponents", meas.Dist(iv(-1, tiny), iv(-1, -1)), 1 + 0x1p-52},
		{"of the least", meas.Dist(iv(0, 0), iv(0, tiny)), tiny},
		{"rounded up to the greatest", meas.Dist(iv(tiny, tiny), iv(big, big)), big},
		{"beyond the greatest", meas.Dist(iv(-tiny, big), iv(big, big)), inf},
		{"far beyond it", meas.Dist(iv(-big, -big), iv(big, big)), inf},
		{"the greatest itself", meas.Dist(iv(0, 0), iv(0, big)), big},
	})
}
