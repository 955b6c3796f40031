package power_test

import (
	"math"
	"math/big"
	"testing"

	"verge/api"
	"verge/power"
)

// What the tests measure by: what an operation makes of each end, exactly, on math/big, and the
// numbers just below and above it, found by going along them.

const (
	greatest = math.MaxFloat64
	least    = math.SmallestNonzeroFloat64
)

var (
	inf    = math.Inf(1)
	nan    = math.NaN()
	signed = math.Copysign(0, -1)
	empty  = api.Interval{Lo: inf, Hi: -inf}
	entire = api.Interval{Lo: -inf, Hi: inf}
)

func iv(lo, hi float64) api.Interval { return api.Interval{Lo: lo, Hi: hi} }

// same: one pattern at each end.
func same(x, y api.Interval) bool {
	return math.Float64bits(x.Lo) == math.Float64bits(y.Lo) && math.Float64bits(x.Hi) == math.Float64bits(y.Hi)
}

func is(t *testing.T, got, want api.Interval, format string, args ...any) {
	t.Helper()
	if !same(got, want) {
		t.Errorf(format+" = {%x, %x}, want {%x, %x}", append(args, got.Lo, got.Hi, want.Lo, want.Hi)...)
	}
}

// above tells the next number or infinity; below the one before.
func above(x float64) float64 { return math.Nextafter(x, inf) }
func below(x float64) float64 { return math.Nextafter(x, -inf) }

// long is room enough for the greatest power of a number, times another one.
const long = 53*api.MaxPow + 64

func exact(x float64) *big.Float { return new(big.Float).SetPrec(long).SetFloat64(x) }
func room() *big.Float           { return new(big.Float).SetPrec(long) }

// value is an infinity, or a real: a number near it, and on which side of it a number lies.
type value struct {
	infinity float64 // else 0
	near     float64
	side     func(g float64) int // the sign of g less the real
}

// ratio tells num by den, which is above 0.
func ratio(num, den *big.Float) value {
	near, _ := new(big.Float).SetPrec(80).Quo(num, den).Float64()
	return value{0, near, func(g float64) int { return room().Mul(exact(g), den).Cmp(num) }}
}

func infinite(x float64) value { return value{infinity: x} }

func number(x float64) value { return ratio(exact(x), exact(1)) }

// powered tells x to the power n, or what it comes near where x is an infinity, or 0 that is come
// to from a side, above 0 or below.
func powered(x float64, n int, side float64) value {
	turned := 1.0
	if n%2 != 0 && (x < 0 || x == 0 && side < 0) {
		turned = -1
	}
	switch {
	case n == 0:
		return number(1)
	case math.IsInf(x, 0) && n < 0, x == 0 && n > 0:
		return number(0)
	case math.IsInf(x, 0), x == 0:
		return infinite(turned * inf)
	}
	product := exact(1)
	for range max(n, -n) {
		product.Mul(product, exact(math.Abs(x)))
	}
	if n < 0 {
		return ratio(exact(turned), product)
	}
	return ratio(product.Mul(product, exact(turned)), exact(1))
}

// down tells the greatest of -Inf and the numbers that are not above a real; an infinity stays.
func (v value) down() float64 {
	if v.infinity != 0 {
		return v.infinity
	}
	g := max(-greatest, min(greatest, v.near))
	for v.side(g) > 0 {
		if g == -greatest {
			return -inf
		}
		g = below(g)
	}
	for g < greatest && v.side(above(g)) <= 0 {
		g = above(g)
	}
	return g + 0 // no -0
}

// up tells the least of +Inf and the numbers that are not below a real; an infinity stays.
func (v value) up() float64 {
	if v.infinity != 0 {
		return v.infinity
	}
	g := max(-greatest, min(greatest, v.near))
	for v.side(g) < 0 {
		if g == greatest {
			return inf
		}
		g = above(g)
	}
	for g > -greatest && v.side(below(g)) >= 0 {
		g = below(g)
	}
	return g + 0
}

// hull tells the least interval that holds all of the values, and what lies between them.
func hull(values ...value) api.Interval {
	x := empty
	for _, v := range values {
		x.Lo, x.Hi = min(x.Lo, v.down()), max(x.Hi, v.up())
	}
	return x
}

// span tells the interval from the least of the ends to the greatest.
func span(ends ...float64) api.Interval {
	x := empty
	for _, g := range ends {
		x.Lo, x.Hi = min(x.Lo, g), max(x.Hi, g)
	}
	return iv(x.Lo+0, x.Hi+0)
}

// holds tells whether x holds a real.
func holds(x api.Interval, v value) bool {
	return (x.Lo == -inf || x.Lo < inf && v.side(x.Lo) <= 0) && (x.Hi == inf || x.Hi > -inf && v.side(x.Hi) >= 0)
}

// taken tells an interval as the document reads it, and whether that is Empty.
func taken(x api.Interval) (api.Interval, bool) {
	if math.IsNaN(x.Lo) || math.IsNaN(x.Hi) || x.Lo > x.Hi || x.Lo == inf || x.Hi == -inf {
		return empty, true
	}
	return iv(x.Lo+0, x.Hi+0), false
}

// The operations, by what they are, not by the chapter's cases.

// wantPown takes what of x lies below 0 and what lies above it one by one: in each of them the
// powers grow all the way, or fall.
func wantPown(x api.Interval, n int) api.Interval {
	x, none := taken(x)
	if none {
		return empty
	}
	if n < -api.MaxPow || n > api.MaxPow {
		return entire
	}
	var all []value
	if x.Lo <= 0 && x.Hi >= 0 && n >= 0 {
		all = append(all, powered(0, n, 1))
	}
	if x.Lo < 0 {
		all = append(all, powered(x.Lo, n, -1), powered(min(x.Hi, 0), n, -1))
	}
	if x.Hi > 0 {
		all = append(all, powered(max(x.Lo, 0), n, 1), powered(x.Hi, n, 1))
	}
	return hull(all...)
}

func wantAbs(x api.Interval) api.Interval {
	x, none := taken(x)
	if none {
		return empty
	}
	out := span(math.Abs(x.Lo), math.Abs(x.Hi))
	if x.Lo <= 0 && x.Hi >= 0 {
		out.Lo = 0
	}
	return out
}

// lesser, greater: by a comparison alone.
func lesser(p, q float64) float64 {
	if p < q {
		return p
	}
	return q
}

func greater(p, q float64) float64 {
	if p > q {
		return p
	}
	return q
}

// corners tells the interval of what f makes of the ends of x, each with each of y.
func corners(x, y api.Interval, f func(p, q float64) float64) api.Interval {
	x, none := taken(x)
	y, nothing := taken(y)
	if none || nothing {
		return empty
	}
	return span(f(x.Lo, y.Lo), f(x.Lo, y.Hi), f(x.Hi, y.Lo), f(x.Hi, y.Hi))
}

func wantMin(x, y api.Interval) api.Interval { return corners(x, y, lesser) }
func wantMax(x, y api.Interval) api.Interval { return corners(x, y, greater) }

// The steps of a number, by whole numbers of any length.

// floorOf tells the greatest whole number not above num by den, den above 0.
func floorOf(num, den *big.Int) *big.Int { return new(big.Int).Div(num, den) } // big.Int's Div leaves a rest from 0 on

// fraction tells x as a ratio.
func fraction(x float64) (num, den *big.Int) {
	r := new(big.Rat).SetFloat64(x)
	return r.Num(), r.Denom()
}

func minus(a *big.Int) *big.Int { return new(big.Int).Neg(a) }

func floorStep(num, den *big.Int) *big.Int { return floorOf(num, den) }
func ceilStep(num, den *big.Int) *big.Int  { return minus(floorOf(minus(num), den)) }

func truncStep(num, den *big.Int) *big.Int {
	if num.Sign() < 0 {
		return ceilStep(num, den)
	}
	return floorStep(num, den)
}

func signStep(num, den *big.Int) *big.Int { return big.NewInt(int64(num.Sign())) }

// nearest tells the whole number nearest to num by den, and, if two are as near, the one that
// chosen picks.
func nearest(num, den *big.Int, chosen func(low, high *big.Int) *big.Int) *big.Int {
	low := floorOf(num, den)
	high := new(big.Int).Add(low, big.NewInt(1))
	over := new(big.Int).Sub(num, new(big.Int).Mul(low, den)) // above low, in parts of den
	switch new(big.Int).Lsh(over, 1).Cmp(den) {
	case -1:
		return low
	case 1:
		return high
	}
	return chosen(low, high)
}

func evenStep(num, den *big.Int) *big.Int {
	return nearest(num, den, func(low, high *big.Int) *big.Int {
		if low.Bit(0) == 0 {
			return low
		}
		return high
	})
}

func awayStep(num, den *big.Int) *big.Int {
	return nearest(num, den, func(low, high *big.Int) *big.Int {
		if low.CmpAbs(high) > 0 {
			return low
		}
		return high
	})
}

// stepped tells what a step makes of an end.
func stepped(x float64, whole func(num, den *big.Int) *big.Int) float64 {
	num, den := fraction(x)
	out, _ := new(big.Float).SetPrec(2000).SetInt(whole(num, den)).Float64()
	return out + 0
}

// stepRange tells what a step makes of an interval, an infinity staying.
func stepRange(x api.Interval, whole func(num, den *big.Int) *big.Int) api.Interval {
	x, none := taken(x)
	if none {
		return empty
	}
	out := x
	if x.Lo > -inf {
		out.Lo = stepped(x.Lo, whole)
	}
	if x.Hi < inf {
		out.Hi = stepped(x.Hi, whole)
	}
	return out
}

func wantFloor(x api.Interval) api.Interval     { return stepRange(x, floorStep) }
func wantCeil(x api.Interval) api.Interval      { return stepRange(x, ceilStep) }
func wantTrunc(x api.Interval) api.Interval     { return stepRange(x, truncStep) }
func wantRoundEven(x api.Interval) api.Interval { return stepRange(x, evenStep) }
func wantRoundAway(x api.Interval) api.Interval { return stepRange(x, awayStep) }

// wantSign: the infinite ends have signs, too.
func wantSign(x api.Interval) api.Interval {
	x, none := taken(x)
	if none {
		return empty
	}
	return stepRange(iv(max(x.Lo, -greatest), min(x.Hi, greatest)), signStep)
}

// The operations by their names, those of the package beside those above.

type unary struct {
	name      string
	got, want func(x api.Interval) api.Interval
}

type binary struct {
	name      string
	got, want func(x, y api.Interval) api.Interval
}

func steps() []unary {
	return []unary{{"Sign", power.Sign, wantSign}, {"Floor", power.Floor, wantFloor}, {"Ceil", power.Ceil, wantCeil},
		{"Trunc", power.Trunc, wantTrunc}, {"RoundEven", power.RoundEven, wantRoundEven}, {"RoundAway", power.RoundAway, wantRoundAway}}
}

func unaries() []unary { return append(steps(), unary{"Abs", power.Abs, wantAbs}) }

func binaries() []binary {
	return []binary{{"Min", power.Min, wantMin}, {"Max", power.Max, wantMax}}
}
