package rev_test

import (
	"math"
	"math/big"
	"testing"

	"verge/api"
	"verge/rev"
)

// The calls of P10.1 by what is asked there: forward, of all reals of a set at one time. What a call
// answers is held against that by the document's words for the least interval: no element of the set
// lies outside, and a number further in one does.

// is compares ends bit by bit.
func is(t *testing.T, got, want api.Interval, format string, args ...any) {
	t.Helper()
	if math.Float64bits(got.Lo) != math.Float64bits(want.Lo) || math.Float64bits(got.Hi) != math.Float64bits(want.Hi) {
		t.Errorf(format+" = {%x, %x}, want {%x, %x}", append(args, got.Lo, got.Hi, want.Lo, want.Hi)...)
	}
}

// checkLeast: got is the least interval that holds those v of all for which asked holds; asked tells
// whether there is one in a set.
func checkLeast(t *testing.T, got api.Interval, all span, asked func(v span) bool, format string, args ...any) {
	t.Helper()
	switch {
	case !right(got):
		t.Errorf(format+" = {%x, %x}, which is not valid", append(args, got.Lo, got.Hi)...)
		return
	case !asked(all):
		is(t, got, empty, format, args...)
		return
	case got == empty:
		t.Errorf(format+" is Empty", args...)
		return
	}
	some := func(v span) bool { return reaches(v.lo, v.hi) && asked(v) }
	if some(all.under(got.Lo)) {
		t.Errorf(format+" = {%x, %x}: some lie below", append(args, got.Lo, got.Hi)...)
	}
	if some(all.over(got.Hi)) {
		t.Errorf(format+" = {%x, %x}: some lie above", append(args, got.Lo, got.Hi)...)
	}
	if !some(all.under(above(got.Lo))) {
		t.Errorf(format+" = {%x, %x}: none lies so low", append(args, got.Lo, got.Hi)...)
	}
	if !some(all.over(below(got.Hi))) {
		t.Errorf(format+" = {%x, %x}: none lies so high", append(args, got.Lo, got.Hi)...)
	}
}

// under tells what of a set lies below an end: it may be nothing.
func (s span) under(x float64) span {
	if hi := end(x, false); order(hi, s.hi) <= 0 {
		s.hi = hi
	}
	return s
}

// over tells what of a set lies above an end: it may be nothing.
func (s span) over(x float64) span {
	if lo := end(x, false); order(lo, s.lo) >= 0 {
		s.lo = lo
	}
	return s
}

// call is one of P10.1's: others are its arguments ahead of x.
type call struct {
	name   string
	others int
	got    func(a []api.Interval, x api.Interval) api.Interval
	asked  func(a []span, v span) bool // of others that are not empty
}

// check holds an answer against what is asked.
func (f call) check(t *testing.T, x api.Interval, others ...api.Interval) {
	t.Helper()
	got := f.got(others, x)
	x, none := taken(x)
	sets := make([]span, len(others))
	for i, other := range others {
		y, nothing := taken(other)
		none = none || nothing
		sets[i] = of(y)
	}
	if none {
		is(t, got, empty, "%s(%x, %x)", f.name, others, x)
		return
	}
	checkLeast(t, got, of(x), func(v span) bool { return f.asked(sets, v) }, "%s(%x, %x)", f.name, others, x)
}

// somewhere tells whether one of some sets meets c.
func somewhere(c span, sets ...span) bool {
	for _, s := range sets {
		if s.meets(c) {
			return true
		}
	}
	return false
}

func added(sets []span, z span) []span {
	out := make([]span, len(sets))
	for i, s := range sets {
		out[i] = s.plus(z)
	}
	return out
}

func askAdd(a []span, v span) bool  { return v.plus(a[0]).meets(a[1]) }
func askSub1(a []span, v span) bool { return v.plus(a[0].minus()).meets(a[1]) }
func askSub2(a []span, v span) bool { return a[0].plus(v.minus()).meets(a[1]) }
func askMul(a []span, v span) bool  { return somewhere(a[1], products(v, a[0])...) }
func askDiv1(a []span, v span) bool { return somewhere(a[1], ratios(v, a[0])...) }
func askDiv2(a []span, v span) bool { return somewhere(a[1], ratios(a[0], v)...) }
func askMin(a []span, v span) bool  { return lesser(v, a[0]).meets(a[1]) }

func askMax(a []span, v span) bool { return lesser(v.minus(), a[0].minus()).minus().meets(a[1]) }

func askFMA(a []span, v span) bool { return somewhere(a[2], added(products(v, a[0]), a[1])...) }

func askFMAAdd(a []span, v span) bool { return somewhere(a[2], added(products(a[0], a[1]), v)...) }

func askNeg(a []span, v span) bool { return v.minus().meets(a[0]) }

func askRecip(a []span, v span) bool { return somewhere(a[0], ratios(single(1), v)...) }

// askSqr: the square of one element, not the product of two.
func askSqr(a []span, v span) bool {
	under, nought, over := v.parted()
	for _, part := range under {
		over = append(over, part.minus())
	}
	for _, part := range over {
		if (span{part.lo.times(part.lo), part.hi.times(part.hi)}).meets(a[0]) {
			return true
		}
	}
	return nought && single(0).meets(a[0])
}

// askSqrt: an element is a root's square, just if the root is its root.
func askSqrt(a []span, v span) bool {
	_, nought, over := a[0].parted()
	for _, part := range over {
		if (span{part.lo.times(part.lo), part.hi.times(part.hi)}).meets(v) {
			return true
		}
	}
	return nought && single(0).meets(v)
}

func askAbs(a []span, v span) bool {
	under, nought, over := v.parted()
	for _, part := range under {
		over = append(over, part.minus())
	}
	return nought && single(0).meets(a[0]) || somewhere(a[0], over...)
}

// The steps, of reals as ratios of whole numbers.

func whole(n int64) *big.Int      { return big.NewInt(n) }
func minus(a *big.Int) *big.Int   { return new(big.Int).Neg(a) }
func twice(a *big.Rat) *big.Rat   { return new(big.Rat).Add(a, a) }
func rat(a *big.Int) *big.Rat     { return new(big.Rat).SetInt(a) }
func floorOf(a *big.Rat) *big.Int { return new(big.Int).Div(a.Num(), a.Denom()) } // big.Int's Div leaves a rest from 0 on

func ceilOf(a *big.Rat) *big.Int { return minus(floorOf(new(big.Rat).Neg(a))) }

func truncOf(a *big.Rat) *big.Int {
	if a.Sign() < 0 {
		return ceilOf(a)
	}
	return floorOf(a)
}

func signOf(a *big.Rat) *big.Int { return whole(int64(a.Sign())) }

// nearest tells the whole number nearest to a, and, if two are as near, the one that chosen picks.
func nearest(a *big.Rat, chosen func(low, high *big.Int) *big.Int) *big.Int {
	low := floorOf(a)
	high := new(big.Int).Add(low, whole(1))
	over := new(big.Rat).Sub(a, rat(low))
	switch twice(over).Cmp(rat(whole(1))) {
	case -1:
		return low
	case 1:
		return high
	}
	return chosen(low, high)
}

func evenOf(a *big.Rat) *big.Int {
	return nearest(a, func(low, high *big.Int) *big.Int {
		if low.Bit(0) == 0 {
			return low
		}
		return high
	})
}

func awayOf(a *big.Rat) *big.Int {
	return nearest(a, func(low, high *big.Int) *big.Int {
		if low.CmpAbs(high) > 0 {
			return low
		}
		return high
	})
}

// firstValue tells the least value of a step over a set that begins at a: of a itself, if it is an
// element, else of the reals next to it, among which the step does not change up to a half.
func firstValue(a limit, step func(*big.Rat) *big.Int) limit {
	if a.infinity != 0 {
		return a
	}
	x, _ := a.num.Rat(nil) // the ends here are numbers, den is 1
	if !a.in {
		half := new(big.Rat).SetFrac(new(big.Int).Add(floorOf(twice(x)), whole(1)), whole(2))
		x = new(big.Rat).Mul(new(big.Rat).Add(x, half), big.NewRat(1, 2))
	}
	return limit{0, room().SetInt(step(x)), exactly(1), true}
}

// stepValues tells the values of a step over a set, of which none between the first and the last is
// left out.
func stepValues(v span, step func(*big.Rat) *big.Int) span {
	turned := func(a *big.Rat) *big.Int { return minus(step(new(big.Rat).Neg(a))) }
	return span{firstValue(v.lo, step), firstValue(v.hi.minus(), turned).minus()}
}

// wholeBetween tells whether a whole number lies between two ends, of which none is a fraction, and in c.
func wholeBetween(s, c span) bool {
	lo, hi := s.lo, s.hi
	if up := firstValue(c.lo, ceilOf); order(lo, up) < 0 {
		lo = up
	}
	if down := firstValue(c.hi.minus(), ceilOf).minus(); order(down, hi) < 0 {
		hi = down
	}
	return order(lo, hi) <= 0
}

func askStep(step func(*big.Rat) *big.Int) func(a []span, v span) bool {
	return func(a []span, v span) bool { return wholeBetween(stepValues(v, step), a[0]) }
}

// askSign: the signs of reals toward the infinities are -1 and 1.
func askSign(a []span, v span) bool {
	s := stepValues(v, signOf)
	if s.lo.infinity != 0 {
		s.lo = end(-1, true)
	}
	if s.hi.infinity != 0 {
		s.hi = end(1, true)
	}
	return wholeBetween(s, a[0])
}

// The calls by their names.

func two(name string, got func(b, c, x api.Interval) api.Interval, asked func(a []span, v span) bool) call {
	return call{name, 2, func(a []api.Interval, x api.Interval) api.Interval { return got(a[0], a[1], x) }, asked}
}

func three(name string, got func(a, b, c, x api.Interval) api.Interval, asked func(a []span, v span) bool) call {
	return call{name, 3, func(a []api.Interval, x api.Interval) api.Interval { return got(a[0], a[1], a[2], x) }, asked}
}

func one(name string, got func(c, x api.Interval) api.Interval, asked func(a []span, v span) bool) call {
	return call{name, 1, func(a []api.Interval, x api.Interval) api.Interval { return got(a[0], x) }, asked}
}

func binaries() []call {
	return []call{two("AddRev", rev.AddRev, askAdd), two("SubRev1", rev.SubRev1, askSub1), two("SubRev2", rev.SubRev2, askSub2),
		two("MulRev", rev.MulRev, askMul), two("DivRev1", rev.DivRev1, askDiv1), two("DivRev2", rev.DivRev2, askDiv2),
		two("MinRev", rev.MinRev, askMin), two("MaxRev", rev.MaxRev, askMax)}
}

func ternaries() []call {
	return []call{three("FMARev", rev.FMARev, askFMA), three("FMARevAdd", rev.FMARevAdd, askFMAAdd)}
}

func steps() []call {
	return []call{one("SignRev", rev.SignRev, askSign), one("FloorRev", rev.FloorRev, askStep(floorOf)), one("CeilRev", rev.CeilRev, askStep(ceilOf)),
		one("TruncRev", rev.TruncRev, askStep(truncOf)), one("RoundEvenRev", rev.RoundEvenRev, askStep(evenOf)), one("RoundAwayRev", rev.RoundAwayRev, askStep(awayOf))}
}

func unaries() []call {
	return append(steps(), one("NegRev", rev.NegRev, askNeg), one("RecipRev", rev.RecipRev, askRecip), one("SqrRev", rev.SqrRev, askSqr),
		one("SqrtRev", rev.SqrtRev, askSqrt), one("AbsRev", rev.AbsRev, askAbs))
}

func powerRev(n int) call {
	got := func(c, x api.Interval) api.Interval { return rev.PownRev(n, c, x) }
	return one("PownRev", got, func(a []span, v span) bool { return somewhere(a[0], powers(v, n)...) })
}

// calls are all of P10.1's, PownRev with a few powers.
func calls() []call {
	out := append(unaries(), binaries()...)
	out = append(out, ternaries()...)
	for _, n := range []int{-4, -3, -2, -1, 0, 1, 2, 3, 4} {
		out = append(out, powerRev(n))
	}
	return out
}
