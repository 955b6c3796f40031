package meas_test

import (
	"math"
	"math/big"
	"testing"

	"verge/api"
	"verge/meas"
)

// What the tests measure by: the chapter's words, exactly, on math/big, and the numbers about an
// exact value, found by going along them.

const (
	greatest = math.MaxFloat64
	least    = math.SmallestNonzeroFloat64
)

var (
	inf    = math.Inf(1)
	nan    = math.NaN()
	signed = math.Copysign(0, -1)
	empty  = api.Interval{Lo: inf, Hi: -inf}
	entire = api.Interval{Lo: -inf, Hi: inf}
)

func iv(lo, hi float64) api.Interval { return api.Interval{Lo: lo, Hi: hi} }

// same: one pattern, or a NaN each.
func same(x, y float64) bool {
	return x != x && y != y || math.Float64bits(x) == math.Float64bits(y)
}

func is(t *testing.T, got, want float64, format string, args ...any) {
	t.Helper()
	if !same(got, want) {
		t.Errorf(format+" = %x, want %x", append(args, got, want)...)
	}
}

// above tells the next number or infinity; below the one before.
func above(x float64) float64 { return math.Nextafter(x, inf) }
func below(x float64) float64 { return math.Nextafter(x, -inf) }

// long is room enough for a sum of any three numbers, halved.
const long = 2200

func room() *big.Float           { return new(big.Float).SetPrec(long) }
func exact(x float64) *big.Float { return room().SetFloat64(x) }

func sum(a, b float64) *big.Float  { return room().Add(exact(a), exact(b)) }
func less(a, b float64) *big.Float { return room().Sub(exact(a), exact(b)) }

// start tells a number that is not far from v.
func start(v *big.Float) float64 {
	near, _ := v.Float64()
	return max(-greatest, min(greatest, near))
}

// up tells the least of +Inf and the numbers that are not below v.
func up(v *big.Float) float64 {
	g := start(v)
	for exact(g).Cmp(v) < 0 {
		if g == greatest {
			return inf
		}
		g = above(g)
	}
	for g > -greatest && exact(below(g)).Cmp(v) >= 0 {
		g = below(g)
	}
	return g + 0 // no -0
}

// near tells the number nearest to v, which is not beyond the greatest; of two the one with the
// even significand, whose last bit is the pattern's.
func near(v *big.Float) float64 {
	high := up(v)
	if exact(high).Cmp(v) == 0 {
		return high
	}
	low := below(high)
	over, under := room().Sub(exact(high), v), room().Sub(v, exact(low))
	switch order := over.Cmp(under); {
	case order < 0, order == 0 && math.Float64bits(high)&1 == 0:
		return high
	}
	return low + 0
}

// taken tells an interval as it is read, and whether that is Empty.
func taken(x api.Interval) (api.Interval, bool) {
	if x.Lo != x.Lo || x.Hi != x.Hi || x.Lo > x.Hi || x.Lo == inf || x.Hi == -inf {
		return empty, true
	}
	return iv(x.Lo+0, x.Hi+0), false
}

func bounded(x api.Interval) bool { return x.Lo > -inf && x.Hi < inf }

func wantInf(x api.Interval) float64 {
	x, _ = taken(x)
	return x.Lo
}

func wantSup(x api.Interval) float64 {
	x, _ = taken(x)
	return x.Hi
}

func wantMid(x api.Interval) float64 {
	x, none := taken(x)
	switch {
	case none:
		return nan
	case x.Lo == -inf && x.Hi == inf:
		return 0
	case x.Lo == -inf:
		return -greatest
	case x.Hi == inf:
		return greatest
	}
	return near(room().Quo(sum(x.Lo, x.Hi), exact(2)))
}

func wantRad(x api.Interval) float64 {
	x, none := taken(x)
	switch {
	case none:
		return nan
	case !bounded(x):
		return inf
	}
	m := wantMid(x)
	one, other := less(m, x.Lo), less(x.Hi, m)
	if one.Cmp(other) > 0 {
		return up(one)
	}
	return up(other)
}

func wantWid(x api.Interval) float64 {
	x, none := taken(x)
	switch {
	case none:
		return nan
	case !bounded(x):
		return inf
	}
	return up(less(x.Hi, x.Lo))
}

// unsigned tells an end without its sign, by its pattern.
func unsigned(x float64) float64 {
	return math.Float64frombits(math.Float64bits(x) &^ (1 << 63))
}

func wantMag(x api.Interval) float64 {
	x, none := taken(x)
	if none {
		return nan
	}
	return max(unsigned(x.Lo), unsigned(x.Hi))
}

func wantMig(x api.Interval) float64 {
	x, none := taken(x)
	switch {
	case none:
		return nan
	case x.Lo <= 0 && 0 <= x.Hi:
		return 0
	}
	return min(unsigned(x.Lo), unsigned(x.Hi))
}

func wantApart(a, b float64) float64 {
	one, other := math.IsInf(a, 0), math.IsInf(b, 0)
	switch {
	case a == b:
		return 0
	case one || other:
		return inf
	}
	d := less(a, b)
	return up(d.Abs(d))
}

func wantDist(x, y api.Interval) float64 {
	x, none := taken(x)
	y, nor := taken(y)
	if none || nor {
		return nan
	}
	return max(wantApart(x.Lo, y.Lo), wantApart(x.Hi, y.Hi))
}

// The calls by their names, those of the package beside those above.

type measure struct {
	name      string
	got, want func(x api.Interval) float64
}

func midOfBoth(x api.Interval) float64 {
	mid, _ := meas.MidRad(x)
	return mid
}

func radOfBoth(x api.Interval) float64 {
	_, rad := meas.MidRad(x)
	return rad
}

func measures() []measure {
	return []measure{{"Inf", meas.Inf, wantInf}, {"Sup", meas.Sup, wantSup}, {"Mid", meas.Mid, wantMid}, {"Rad", meas.Rad, wantRad},
		{"MidRad's mid", midOfBoth, wantMid}, {"MidRad's rad", radOfBoth, wantRad}, {"Wid", meas.Wid, wantWid}, {"Mag", meas.Mag, wantMag}, {"Mig", meas.Mig, wantMig}}
}

func checkAll(t *testing.T, x api.Interval) {
	t.Helper()
	for _, m := range measures() {
		is(t, m.got(x), m.want(x), "%s({%x, %x})", m.name, x.Lo, x.Hi)
	}
}

func checkDist(t *testing.T, x, y api.Interval) {
	t.Helper()
	is(t, meas.Dist(x, y), wantDist(x, y), "Dist({%x, %x}, {%x, %x})", x.Lo, x.Hi, y.Lo, y.Hi)
}
