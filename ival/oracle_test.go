package ival_test

import (
	"math"
	"math/big"
	"testing"

	"verge/api"
	"verge/ival"
)

// What the tests measure by: what an operation makes of each end, exactly, on math/big, and the
// numbers just below and above it, found by going along them.

const (
	greatest = math.MaxFloat64
	least    = math.SmallestNonzeroFloat64
)

var (
	inf    = math.Inf(1)
	nan    = math.NaN()
	signed = math.Copysign(0, -1)
	empty  = api.Interval{Lo: inf, Hi: -inf}
	entire = api.Interval{Lo: -inf, Hi: inf}
)

func iv(lo, hi float64) api.Interval { return api.Interval{Lo: lo, Hi: hi} }

// same: one pattern at each end.
func same(x, y api.Interval) bool {
	return math.Float64bits(x.Lo) == math.Float64bits(y.Lo) && math.Float64bits(x.Hi) == math.Float64bits(y.Hi)
}

func is(t *testing.T, got, want api.Interval, format string, args ...any) {
	t.Helper()
	if !same(got, want) {
		t.Errorf(format+" = {%x, %x}, want {%x, %x}", append(args, got.Lo, got.Hi, want.Lo, want.Hi)...)
	}
}

// above tells the next number or infinity; below the one before.
func above(x float64) float64 { return math.Nextafter(x, inf) }
func below(x float64) float64 { return math.Nextafter(x, -inf) }

// long is room enough for every product of two numbers with a third one added.
const long = 5000

func exact(x float64) *big.Float { return new(big.Float).SetPrec(long).SetFloat64(x) }
func room() *big.Float           { return new(big.Float).SetPrec(long) }

// value is an infinity, or a real: a number near it, and on which side of it a number lies.
type value struct {
	infinity float64 // else 0
	near     float64
	side     func(g float64) int // the sign of g less the real
}

// ratio tells num by den, which is above 0.
func ratio(num, den *big.Float) value {
	near, _ := new(big.Float).SetPrec(80).Quo(num, den).Float64()
	return value{0, near, func(g float64) int { return room().Mul(exact(g), den).Cmp(num) }}
}

func infinite(x float64) value { return value{infinity: x} }

// sum tells x + y, where an infinity and anything is that infinity.
func sum(x, y float64) value {
	switch {
	case math.IsInf(x, 0):
		return infinite(x)
	case math.IsInf(y, 0):
		return infinite(y)
	}
	return ratio(room().Add(exact(x), exact(y)), exact(1))
}

// fused tells x y + z, where 0 times an infinity is 0.
func fused(x, y, z float64) value {
	switch {
	case x == 0 || y == 0:
		return sum(0, z)
	case math.IsInf(x, 0) || math.IsInf(y, 0):
		return infinite(x * y)
	case math.IsInf(z, 0):
		return infinite(z)
	}
	return ratio(room().Add(room().Mul(exact(x), exact(y)), exact(z)), exact(1))
}

func times(x, y float64) value { return fused(x, y, 0) }

// over tells x times the inverse of y, where an infinity's is 0, that of 0 the infinity of side's
// sign, and 0 times an infinity is 0.
func over(x, y, side float64) value {
	switch {
	case x == 0 || math.IsInf(y, 0):
		return sum(0, 0)
	case y == 0:
		return infinite(x * side * inf)
	case math.IsInf(x, 0):
		return infinite(x * y)
	case y < 0:
		x, y = -x, -y
	}
	return ratio(exact(x), exact(y))
}

// root tells the square root of x, from 0 on.
func root(x float64) value {
	if x == inf {
		return infinite(x)
	}
	return value{0, math.Sqrt(x), func(g float64) int {
		if g < 0 {
			return -1
		}
		return room().Mul(exact(g), exact(g)).Cmp(exact(x))
	}}
}

// down tells the greatest of -Inf and the numbers that are not above a real; an infinity stays.
func (v value) down() float64 {
	if v.infinity != 0 {
		return v.infinity
	}
	g := max(-greatest, min(greatest, v.near))
	for v.side(g) > 0 {
		if g == -greatest {
			return -inf
		}
		g = below(g)
	}
	for g < greatest && v.side(above(g)) <= 0 {
		g = above(g)
	}
	return g + 0 // no -0
}

// up tells the least of +Inf and the numbers that are not below a real; an infinity stays.
func (v value) up() float64 {
	if v.infinity != 0 {
		return v.infinity
	}
	g := max(-greatest, min(greatest, v.near))
	for v.side(g) < 0 {
		if g == greatest {
			return inf
		}
		g = above(g)
	}
	for g > -greatest && v.side(below(g)) >= 0 {
		g = below(g)
	}
	return g + 0
}

// hull tells the least interval that holds all of the values, and what lies between them.
func hull(values ...value) api.Interval {
	x := empty
	for _, v := range values {
		x.Lo, x.Hi = min(x.Lo, v.down()), max(x.Hi, v.up())
	}
	return x
}

// holds tells whether x holds a real.
func holds(x api.Interval, v value) bool {
	return (x.Lo == -inf || x.Lo < inf && v.side(x.Lo) <= 0) && (x.Hi == inf || x.Hi > -inf && v.side(x.Hi) >= 0)
}

// taken tells an interval as the document reads it, and whether that is Empty.
func taken(x api.Interval) (api.Interval, bool) {
	if math.IsNaN(x.Lo) || math.IsNaN(x.Hi) || x.Lo > x.Hi || x.Lo == inf || x.Hi == -inf {
		return empty, true
	}
	return iv(x.Lo+0, x.Hi+0), false
}

// The operations, by all ends of their arguments.

func wantNeg(x api.Interval) api.Interval {
	x, none := taken(x)
	if none {
		return empty
	}
	return iv(0-x.Hi, 0-x.Lo)
}

func wantAdd(x, y api.Interval) api.Interval {
	x, none := taken(x)
	y, nothing := taken(y)
	if none || nothing {
		return empty
	}
	return iv(sum(x.Lo, y.Lo).down(), sum(x.Hi, y.Hi).up())
}

func wantSub(x, y api.Interval) api.Interval {
	x, none := taken(x)
	y, nothing := taken(y)
	if none || nothing {
		return empty
	}
	return iv(sum(x.Lo, -y.Hi).down(), sum(x.Hi, -y.Lo).up())
}

func wantMul(x, y api.Interval) api.Interval {
	x, none := taken(x)
	y, nothing := taken(y)
	if none || nothing {
		return empty
	}
	return hull(times(x.Lo, y.Lo), times(x.Lo, y.Hi), times(x.Hi, y.Lo), times(x.Hi, y.Hi))
}

// wantDiv takes what of y lies above 0 and what lies below it one by one.
func wantDiv(x, y api.Interval) api.Interval {
	x, none := taken(x)
	y, nothing := taken(y)
	if none || nothing {
		return empty
	}
	var all []value
	for _, side := range []float64{1, -1} {
		part := iv(max(y.Lo, 0), max(y.Hi, 0))
		if side < 0 {
			part = iv(min(y.Lo, 0), min(y.Hi, 0))
		}
		if part == iv(0, 0) {
			continue
		}
		for _, p := range []float64{x.Lo, x.Hi} {
			all = append(all, over(p, part.Lo, side), over(p, part.Hi, side))
		}
	}
	return hull(all...)
}

func wantRecip(x api.Interval) api.Interval { return wantDiv(iv(1, 1), x) }

func wantSqr(x api.Interval) api.Interval {
	x, none := taken(x)
	if none {
		return empty
	}
	all := []value{times(x.Lo, x.Lo), times(x.Hi, x.Hi)}
	if x.Lo < 0 && x.Hi > 0 {
		all = append(all, sum(0, 0))
	}
	return hull(all...)
}

func wantSqrt(x api.Interval) api.Interval {
	x, none := taken(x)
	if none || x.Hi < 0 {
		return empty
	}
	return hull(root(max(x.Lo, 0)), root(x.Hi))
}

func wantFMA(x, y, z api.Interval) api.Interval {
	x, none := taken(x)
	y, nothing := taken(y)
	z, nought := taken(z)
	if none || nothing || nought {
		return empty
	}
	out := empty
	for _, p := range []float64{x.Lo, x.Hi} {
		for _, q := range []float64{y.Lo, y.Hi} {
			out.Lo, out.Hi = min(out.Lo, fusedLow(p, q, z.Lo)), max(out.Hi, fusedHigh(p, q, z.Hi))
		}
	}
	return out
}

// A lower bound -Inf and anything is -Inf, whatever the product.
func fusedLow(p, q, e float64) float64 {
	if e == -inf {
		return -inf
	}
	return fused(p, q, e).down()
}

func fusedHigh(p, q, f float64) float64 {
	if f == inf {
		return inf
	}
	return fused(p, q, f).up()
}

// The operations by their names, those of the package beside those above.

type unary struct {
	name      string
	got, want func(x api.Interval) api.Interval
}

type binary struct {
	name      string
	got, want func(x, y api.Interval) api.Interval
}

func unaries() []unary {
	return []unary{{"Neg", ival.Neg, wantNeg}, {"Recip", ival.Recip, wantRecip}, {"Sqr", ival.Sqr, wantSqr}, {"Sqrt", ival.Sqrt, wantSqrt}}
}

func binaries() []binary {
	return []binary{{"Add", ival.Add, wantAdd}, {"Sub", ival.Sub, wantSub}, {"Mul", ival.Mul, wantMul}, {"Div", ival.Div, wantDiv}}
}

// dice are numbers that look like chance, the same at every run.
type dice uint64

func (d *dice) next() uint64 {
	*d ^= *d << 13
	*d ^= *d >> 7
	*d ^= *d << 17
	return uint64(*d) * 0x2545f4914f6cdd1d
}

func (d *dice) below(n int) int { return int(d.next() >> 1 % uint64(n)) }

// number tells numbers of all magnitudes, and of some more often.
func (d *dice) number() float64 {
	sig := float64(d.next()>>11 | 1)
	if d.below(3) == 0 {
		sig = float64(d.below(40))
	}
	if d.below(2) == 0 {
		sig = -sig
	}
	switch d.below(8) {
	case 0:
		return math.Ldexp(sig, -1130+d.below(100))
	case 1:
		return math.Ldexp(sig, 900+d.below(71))
	case 2:
		return math.Ldexp(sig, -1074+d.below(2045))
	case 3:
		return math.Ldexp(sig, -580+d.below(80))
	case 4:
		return math.Ldexp(sig, 440+d.below(80))
	}
	return math.Ldexp(sig, -60+d.below(20))
}

// end tells numbers, infinities, and numbers on which much hangs.
func (d *dice) end() float64 {
	switch d.below(12) {
	case 0:
		return inf
	case 1:
		return -inf
	case 2:
		return 0
	case 3:
		return some()[d.below(len(some()))]
	}
	return d.number()
}

// interval tells intervals that are not Empty, as they would be read.
func (d *dice) interval() api.Interval {
	for {
		x, y := d.end(), d.end()
		switch d.below(4) {
		case 0: // narrow ones
			y = above(above(x))
		case 1:
			y = x
		}
		if out, none := taken(iv(min(x, y), max(x, y))); !none {
			return out
		}
	}
}

// element tells a number in an interval that is not Empty.
func (d *dice) element(x api.Interval) float64 {
	lo, hi := max(x.Lo, -greatest), min(x.Hi, greatest)
	switch g := d.number(); {
	case lo <= g && g <= hi:
		return g
	case d.below(3) == 0:
		return lo
	case d.below(3) == 0:
		return hi
	}
	part := float64(d.next()>>11) * 0x1p-53
	return max(lo, min(hi, float64(lo*(1-part))+float64(hi*part)))
}

// inside tells an interval that lies in another that is not Empty.
func (d *dice) inside(x api.Interval) api.Interval {
	p, q := d.element(x), d.element(x)
	in := iv(min(p, q)+0, max(p, q)+0)
	switch d.below(4) {
	case 0:
		in.Lo = x.Lo
	case 1:
		in.Hi = x.Hi
	}
	return in
}

// some numbers on which much hangs.
func some() []float64 {
	return []float64{least, -least, 0x1p-1022, -0x1p-1022, 0x1p-537, -0x1p-538, 0.1, -0.1, 1, -1, 1 + 0x1p-52, 1 - 0x1p-53, -3, 10,
		0x1p53, -0x1p512, 0x1p511, 0x1p1023, greatest, -greatest}
}

// edges are the ends that the document names, wrong ones too.
func edges() []float64 {
	return []float64{-inf, -greatest, -3, -0.1, -least, signed, 0, least, 0.7, 2, greatest, inf, nan}
}

// crossed tells all pairs of ends as intervals.
func crossed(ends []float64) []api.Interval {
	var out []api.Interval
	for _, lo := range ends {
		for _, hi := range ends {
			out = append(out, iv(lo, hi))
		}
	}
	return out
}

// usable tells those of crossed that are not read as Empty, and Empty itself.
func usable(ends []float64) []api.Interval {
	out := []api.Interval{empty}
	for _, x := range crossed(ends) {
		if x, none := taken(x); !none {
			out = append(out, x)
		}
	}
	return out
}
