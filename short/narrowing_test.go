package short_test

import (
	"math"
	"testing"

	"verge/api"
	"verge/short"
)

// P14.3

// checkNarrowAt: of one number, of either sign, and as either end.
func checkNarrowAt(t *testing.T, x float64) {
	t.Helper()
	for _, v := range []float64{x, -x} {
		checkNarrow(t, iv(v, v))
		checkNarrow(t, iv(v, inf))
		checkNarrow(t, iv(-inf, v))
		checkNarrow(t, iv(v, 0))
		checkNarrow(t, iv(0, v))
	}
}

// about tells a number of binary64, and those next to it.
func about(x float64) []float64 { return []float64{belowWide(x), x, aboveWide(x)} }

// Each of many numbers of binary32, the half way to the next, and what lies next to both.
func TestNarrowAtNumbers(t *testing.T) {
	for exp := -150; exp <= 127; exp++ {
		for _, sig := range []float64{1, 1 + 0x1p-23, 1 + 0x1p-22, 1 + 0x1p-12, 1.25, 1.5, 2 - 0x1p-12, 2 - 0x1p-22, 2 - 0x1p-23} {
			x := float32(math.Ldexp(sig, exp))
			between := math.Ldexp(sig+0x1p-24, exp)
			if next := above(x); !math.IsInf(float64(next), 0) {
				between = (float64(x) + float64(next)) / 2
			}
			for _, v := range append(about(float64(x)), about(between)...) {
				checkNarrowAt(t, v)
			}
		}
	}
}

// Numbers all along binary32, at a stride that is no power of 2, subnormal ones at a shorter one.
func TestNarrowAllAlong(t *testing.T) {
	try := func(place uint32) {
		x, next := float64(math.Float32frombits(place)), float64(math.Float32frombits(place+1))
		half := (x + next) / 2 // exact in binary64
		for _, v := range append(about(x), append(about(half), x+(next-x)/4, next-(next-x)/4)...) {
			checkNarrow(t, iv(v, v))
			checkNarrow(t, iv(-v, -v))
		}
	}
	for place := uint32(0); place < 0x7f7fffff; place += 20011 {
		try(place)
	}
	for place := uint32(0); place < 0x800100; place += 251 {
		try(place)
	}
	for place := range uint32(5000) {
		try(place)
		try(0x7f7ffffe - place)
		try(0x7ff000 + place)
	}
}

func TestNarrowOfEdges(t *testing.T) {
	half := 0x1p128 - 0x1p103 // half way beyond the greatest
	ends := append(patterns64(), half, belowWide(half), aboveWide(half), -half, belowWide(-half), aboveWide(-half), aboveWide(greatest), -aboveWide(greatest), 0x1p-1000, -0x1p-1000, aboveWide(0x1p-150), 0.1, -0.1)
	for _, x := range crossed(ends) {
		checkNarrow(t, api.Interval(x))
	}
}

func TestNarrowByChance(t *testing.T) {
	d := dice(14030)
	for range 100000 {
		x, y := d.bitsWide(), d.bitsWide()
		checkNarrow(t, iv(x, y))
		checkNarrow(t, iv(min(x, y), max(x, y)))
		checkNarrow(t, iv(x, x))
	}
}

// The edges, written out.
func TestNarrowWrittenOut(t *testing.T) {
	half := 0x1p128 - 0x1p103
	for _, row := range []struct {
		x    api.Interval
		want api.Short
	}{
		{iv(greatest, greatest), sv(greatest, greatest)},
		{iv(-greatest, -greatest), sv(-greatest, -greatest)},
		{iv(aboveWide(greatest), aboveWide(greatest)), sv(greatest, inf)},
		{iv(-aboveWide(greatest), -aboveWide(greatest)), sv(-inf, -greatest)},
		{iv(belowWide(half), belowWide(half)), sv(greatest, inf)},
		{iv(half, half), sv(greatest, inf)},
		{iv(-half, -half), sv(-inf, -greatest)},
		{iv(0x1p128, 0x1p128), sv(greatest, inf)},
		{iv(greatestWide, greatestWide), sv(greatest, inf)},
		{iv(-greatestWide, -greatestWide), sv(-inf, -greatest)},
		{iv(greatestWide, inf), sv(greatest, inf)},
		{iv(-inf, -greatestWide), sv(-inf, -greatest)},
		{iv(belowWide(greatest), belowWide(greatest)), sv(float64(below(greatest)), greatest)},
		{iv(leastWide, leastWide), sv(0, least)},
		{iv(-leastWide, -leastWide), sv(-least, 0)},
		{iv(0x1p-150, 0x1p-150), sv(0, least)},
		{iv(-0x1p-150, -0x1p-150), sv(-least, 0)},
		{iv(aboveWide(0x1p-150), aboveWide(0x1p-150)), sv(0, least)},
		{iv(belowWide(0x1p-149), aboveWide(0x1p-149)), sv(0, 2*least)},
		{iv(3*0x1p-150, 3*0x1p-150), sv(least, 2*least)},
		{iv(0x1p-149, 0x1p-149), sv(least, least)},
		{iv(-1, signed), sv(-1, 0)},
		{iv(signed, signed), sv(0, 0)},
		{iv(1+0x1p-24, 1+0x1p-24), sv(1, 1+0x1p-23)},
		{iv(1+3*0x1p-24, 1+3*0x1p-24), sv(1+0x1p-23, 1+0x1p-22)},
		{iv(-1-0x1p-24, -1-0x1p-24), sv(-1-0x1p-23, -1)},
		{iv(aboveWide(1), aboveWide(1)), sv(1, 1+0x1p-23)},
		{iv(belowWide(1), belowWide(1)), sv(1-0x1p-24, 1)},
		{iv(16777217, 16777217), sv(16777216, 16777218)},
		{iv(inf, inf), empty},
		{iv(-inf, -inf), empty},
		{iv(inf, -inf), empty},
		{iv(1, nan), empty},
		{iv(nan, -inf), empty},
		{iv(1e300, -1e300), empty},
		{iv(aboveWide(1), 1), empty}, // though both ends come to 1
		{iv(0x1p-200, -0x1p-200), empty},
		{iv(1e301, 1e300), empty},
	} {
		is(t, short.Narrow(row.x), row.want, "Narrow(%x)", row.x)
	}
}

func TestWideOfEdges(t *testing.T) {
	for _, x := range shorts(patterns32()) {
		checkWide(t, x)
	}
	isWide(t, short.Wide(empty), iv(inf, -inf), "Wide(Empty)")
	isWide(t, short.Wide(entire), iv(-inf, inf), "Wide(Entire)")
	isWide(t, short.Wide(sv(nan, 1)), iv(inf, -inf), "Wide({NaN, 1})")
	isWide(t, short.Wide(sv(inf, inf)), iv(inf, -inf), "Wide({+Inf, +Inf})")
	isWide(t, short.Wide(sv(signed, greatest)), iv(0, 0x1p128-0x1p104), "Wide({-0, G})")
}

func TestWideByChance(t *testing.T) {
	d := dice(14031)
	for range 100000 {
		checkWide(t, d.wild())
		checkWide(t, d.interval())
		checkWide(t, d.point())
	}
}
