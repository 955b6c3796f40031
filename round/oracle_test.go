package round_test

import (
	"math"
	"math/big"
	"testing"

	"verge/api"
	"verge/fbit"
)

// What the tests measure by: exact reals, rounded as the chapter's words say, on math/big.

const (
	greatest = math.MaxFloat64
	least    = math.SmallestNonzeroFloat64
	e        = 0x1p-52
	maxInt   = math.MaxInt
	minInt   = math.MinInt
)

var (
	inf   = math.Inf(1)
	nan   = math.NaN()
	minus = math.Copysign(0, -1)
)

// directions: the three, and some that are none of them.
var directions = []int{api.Down, api.Near, api.Up, 2, -2, maxInt, minInt}

// same: one pattern, or both NaN.
func same(x, y float64) bool {
	return x != x && y != y || math.Float64bits(x) == math.Float64bits(y)
}

func is(t *testing.T, got, want float64, format string, args ...any) {
	t.Helper()
	if !same(got, want) {
		t.Errorf(format+" = %v (%x), want %v (%x)", append(args, got, math.Float64bits(got), want, math.Float64bits(want))...)
	}
}

// real is num / den times 2^exp, and less than 0 if neg; den is above 0.
type real struct {
	neg      bool
	num, den *big.Int
	exp      int
}

func realOf(x float64) real {
	neg, sig, exp, ok := fbit.Split(x)
	if !ok {
		panic("no number")
	}
	return real{neg, new(big.Int).SetUint64(sig), big.NewInt(1), exp}
}

func (r real) signed() *big.Int {
	if r.neg {
		return new(big.Int).Neg(r.num)
	}
	return r.num
}

func shifted(a *big.Int, n int) *big.Int { return new(big.Int).Lsh(a, uint(n)) }

// plus: of reals with the denominator 1.
func (r real) plus(s real) real {
	low := min(r.exp, s.exp)
	sum := new(big.Int).Add(shifted(r.signed(), r.exp-low), shifted(s.signed(), s.exp-low))
	return real{sum.Sign() < 0, sum.Abs(sum), big.NewInt(1), low}
}

func (r real) times(s real) real {
	return real{r.neg != s.neg, new(big.Int).Mul(r.num, s.num), new(big.Int).Mul(r.den, s.den), r.exp + s.exp}
}

func (r real) by(s real) real {
	return real{r.neg != s.neg, new(big.Int).Mul(r.num, s.den), new(big.Int).Mul(r.den, s.num), r.exp - s.exp}
}

func (r real) minus() real { return real{!r.neg, r.num, r.den, r.exp} }

func (r real) power(n int) real {
	if n < 0 {
		return realOf(1).by(r.power(-n))
	}
	k := big.NewInt(int64(n))
	return real{r.neg && n%2 == 1, new(big.Int).Exp(r.num, k, nil), new(big.Int).Exp(r.den, k, nil), r.exp * n}
}

// format is what the numbers of a kind of floats are: sig times 2^e, sig below 2^width, e from low to
// high.
type format struct{ width, low, high int }

var (
	binary64 = format{53, -1074, 971}
	binary32 = format{24, -149, 104}
)

// around tells the numbers (or infinities) just not above and just not below a magnitude, and which
// of the two is nearest, of two the even one.
func (f format) around(r real) (down, near, up float64) {
	long := r.num.BitLen() - r.den.BitLen() + r.exp // the magnitude is below 2^(long+1), not below 2^(long-1)
	last := math.Ldexp(float64(uint64(1)<<f.width-1), f.high)
	switch {
	case r.num.Sign() == 0:
		return 0, 0, 0
	case long > f.width+f.high+2:
		return last, inf, inf
	case long < f.low-2:
		return 0, 0, math.Ldexp(1, f.low)
	}
	for at := max(long-f.width-1, f.low); ; at++ {
		num, den := shifted(r.num, max(r.exp-at, 0)), shifted(r.den, max(at-r.exp, 0))
		whole, rest := new(big.Int).QuoRem(num, den, new(big.Int))
		if whole.BitLen() > f.width {
			continue
		}
		if at > f.high {
			return last, inf, inf
		}
		k := whole.Uint64()
		down, up = math.Ldexp(float64(k), at), math.Ldexp(float64(k+1), at)
		if down == last {
			up = inf
		}
		half := shifted(rest, 1).Cmp(den)
		switch {
		case rest.Sign() == 0:
			return down, down, down
		case half > 0 || half == 0 && k%2 == 1:
			return down, up, up
		}
		return down, down, up
	}
}

// rounded is what the words 'to round' ask of a real.
func (f format) rounded(d int, r real) float64 {
	down, near, up := f.around(r)
	if r.neg {
		down, near, up = 0-up, 0-near, 0-down
	}
	switch d {
	case api.Down:
		return down
	case api.Up:
		return up
	}
	return near
}

// dice are numbers that look like chance, the same at every run.
type dice uint64

func (d *dice) next() uint64 {
	*d ^= *d << 13
	*d ^= *d >> 7
	*d ^= *d << 17
	return uint64(*d) * 0x2545f4914f6cdd1d
}

func (d *dice) below(n int) int { return int(d.next() >> 1 % uint64(n)) }

// sig: significands of many kinds: any, with few bits, with few noughts, short ones.
func (d *dice) sig() uint64 {
	v := d.next() >> 11
	few := uint64(1)<<52 | 1<<d.below(53) | 1<<d.below(53)
	switch d.below(5) {
	case 0:
		v = few
	case 1:
		v = 1<<53 - 1 ^ few | 1<<52
	case 2:
		v >>= d.below(53)
	}
	return v | 1<<52
}

// within tells a number of any sign with an exponent from low to high.
func (d *dice) within(low, high int) float64 {
	x := math.Ldexp(float64(d.sig()), low+d.below(high-low+1))
	if d.below(2) == 0 {
		return -x
	}
	return x
}

// number tells numbers of all magnitudes, and of some more often.
func (d *dice) number() float64 {
	switch d.below(6) {
	case 0:
		return d.within(-1130, -1000)
	case 1:
		return d.within(900, 970)
	case 2:
		return d.within(-1074, 970)
	case 3:
		return d.within(-540, -440)
	}
	return d.within(-120, 20)
}

// edges are the numbers at which something changes, and their neighbours.
func edges() []float64 {
	out := []float64{0, minus}
	for _, x := range []float64{
		least, 0x1p-1073, 0x1p-1050, 0x1p-1022, 0x1p-1021, 0x1p-969, 0x1p-537, 0x1p-450, 0x1p-449, 0x1p-27,
		0x1p-53, e, 0.1, 0.5, 1, 1.5, 3, 10, 0x1p27, 0x1p53, 0x1p449, 0x1p450, 0x1p512, 0x1p969, 0x1p970, 0x1p1000, 0x1p1023, greatest,
	} {
		for _, y := range []float64{fbit.NextDown(x), x, fbit.NextUp(x)} {
			if y != 0 && y <= greatest {
				out = append(out, y, -y)
			}
		}
	}
	return out
}

// few of the edges, for what is asked of three at a time.
func few() []float64 {
	return []float64{0, minus, least, -least, 0x1p-1022, -0x1.fffffffffffffp-1022, 0x1p-538, 0x1p-450, -1, 1 + e, 1 - e, -1.5, 3, 0.1,
		0x1p-53, -0x1.8p-53, 0x1p53, 0x1p450, -0x1.0000000000001p450, 0x1p511, 0x1.fffffffffffffp511, 0x1p970, -0x1p1000, greatest, -greatest}
}
