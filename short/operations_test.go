package short_test

import (
	"math/big"
	"testing"

	"verge/api"
	"verge/short"
)

// The document's table of operations, as one question for each: whether it is defined at some elements of sets of
// reals, with a value in another set. What Apply answers is held against that by the words for the least interval of
// binary32: no value lies outside, and one lies outside of all that end further in.

type operation struct {
	name     string
	op, n    int
	operands int
	meets    func(a []span, c span) bool // of sets that are not empty
}

func smooth() []operation {
	return []operation{
		{"Id", api.OpId, 0, 1, func(a []span, c span) bool { return a[0].meets(c) }},
		{"Neg", api.OpNeg, 0, 1, func(a []span, c span) bool { return a[0].minus().meets(c) }},
		{"Add", api.OpAdd, 0, 2, func(a []span, c span) bool { return a[0].plus(a[1]).meets(c) }},
		{"Sub", api.OpSub, 0, 2, func(a []span, c span) bool { return a[0].plus(a[1].minus()).meets(c) }},
		{"Mul", api.OpMul, 0, 2, func(a []span, c span) bool { return somewhere(c, products(a[0], a[1])...) }},
		{"Div", api.OpDiv, 0, 2, func(a []span, c span) bool { return somewhere(c, ratios(a[0], a[1])...) }},
		{"Recip", api.OpRecip, 0, 1, func(a []span, c span) bool { return somewhere(c, ratios(single(1), a[0])...) }},
		{"Sqr", api.OpSqr, 0, 1, func(a []span, c span) bool { return somewhere(c, powers(a[0], 2)...) }},
		{"Sqrt", api.OpSqrt, 0, 1, rooted},
		{"FMA", api.OpFMA, 0, 3, func(a []span, c span) bool { return somewhere(c, added(products(a[0], a[1]), a[2])...) }},
		{"Abs", api.OpAbs, 0, 1, magnitude},
		{"Min", api.OpMin, 0, 2, func(a []span, c span) bool { return lesser(a[0], a[1]).meets(c) }},
		{"Max", api.OpMax, 0, 2, func(a []span, c span) bool { return lesser(a[0].minus(), a[1].minus()).minus().meets(c) }},
	}
}

func power(n int) operation {
	return operation{"Pown", api.OpPown, n, 1, func(a []span, c span) bool { return somewhere(c, powers(a[0], n)...) }}
}

func steps() []operation {
	out := []operation{{"Sign", api.OpSign, 0, 1, nil}}
	out[0].meets = func(a []span, c span) bool {
		under, nought, over := a[0].parted()
		return len(under) > 0 && single(-1).meets(c) || nought && single(0).meets(c) || len(over) > 0 && single(1).meets(c)
	}
	for _, f := range []struct {
		name string
		op   int
		step func(x *big.Rat) *big.Int
	}{{"Floor", api.OpFloor, floorOf}, {"Ceil", api.OpCeil, ceilOf}, {"Trunc", api.OpTrunc, truncOf}, {"RoundEven", api.OpRoundEven, evenOf}, {"RoundAway", api.OpRoundAway, awayOf}} {
		out = append(out, operation{f.name, f.op, 0, 1, func(a []span, c span) bool { return wholeBetween(values(a[0], f.step), c) }})
	}
	return out
}

// operations are all, Pown with a few powers.
func operations() []operation {
	out := append(smooth(), steps()...)
	for _, n := range []int{-4, -3, -2, -1, 0, 1, 2, 3, 4} {
		out = append(out, power(n))
	}
	return out
}

// checkApply: P14.4, of an operation with as many arguments as it has operands.
func (f operation) checkApply(t *testing.T, args ...api.Short) {
	t.Helper()
	got := short.Apply(f.op, f.n, args...)
	var sets []span
	for _, x := range args {
		x = readShort(x)
		if x == empty {
			is(t, got, empty, "%s %d of %x", f.name, f.n, args)
			return
		}
		sets = append(sets, of(x))
	}
	f.checkLeast(t, got, args, func(c span) bool { return f.meets(sets, c) })
}

// checkLeast: got is the least interval of binary32 that holds the values; asked tells whether one is in a set.
func (f operation) checkLeast(t *testing.T, got api.Short, args []api.Short, asked func(c span) bool) {
	t.Helper()
	switch {
	case !rightShort(got):
		t.Errorf("%s %d of %x = %x, which is not valid", f.name, f.n, args, got)
		return
	case !asked(of(entire)):
		is(t, got, empty, "%s %d of %x", f.name, f.n, args)
		return
	case got == empty:
		t.Errorf("%s %d of %x is Empty", f.name, f.n, args)
		return
	}
	for _, c := range []struct {
		beyond span
		some   bool
		what   string
	}{
		{under(got.Lo), false, "some lie below"}, {over(got.Hi), false, "some lie above"},
		{under(above(got.Lo)), true, "none lies so low"}, {over(below(got.Hi)), true, "none lies so high"},
	} {
		if some := reaches(c.beyond.lo, c.beyond.hi) && asked(c.beyond); some != c.some {
			t.Errorf("%s %d of %x = %x: %s", f.name, f.n, args, got, c.what)
		}
	}
}

// under tells all reals below an end: there may be none; over all above it.
func under(x float32) span { return span{infinite(-1), end(float64(x), false)} }
func over(x float32) span  { return span{end(float64(x), false), infinite(1)} }

// somewhere tells whether one of some sets meets c.
func somewhere(c span, sets ...span) bool {
	for _, s := range sets {
		if s.meets(c) {
			return true
		}
	}
	return false
}

func added(sets []span, z span) []span {
	out := make([]span, len(sets))
	for i, s := range sets {
		out[i] = s.plus(z)
	}
	return out
}

// rooted: a real is the root of an element of a, just if its square is one and it is not below 0.
func rooted(a []span, c span) bool {
	_, nought, over := c.parted()
	for _, part := range over {
		if raised(part, 2).meets(a[0]) {
			return true
		}
	}
	return nought && single(0).meets(a[0])
}

func magnitude(a []span, c span) bool {
	under, nought, over := a[0].parted()
	for _, part := range under {
		over = append(over, part.minus())
	}
	return nought && single(0).meets(c) || somewhere(c, over...)
}

// The steps, of reals as ratios of whole numbers.

func whole(n int64) *big.Int      { return big.NewInt(n) }
func minus(a *big.Int) *big.Int   { return new(big.Int).Neg(a) }
func twice(a *big.Rat) *big.Rat   { return new(big.Rat).Add(a, a) }
func rat(a *big.Int) *big.Rat     { return new(big.Rat).SetInt(a) }
func floorOf(a *big.Rat) *big.Int { return new(big.Int).Div(a.Num(), a.Denom()) } // big.Int's Div leaves a rest from 0 on

func ceilOf(a *big.Rat) *big.Int { return minus(floorOf(new(big.Rat).Neg(a))) }

func truncOf(a *big.Rat) *big.Int {
	if a.Sign() < 0 {
		return ceilOf(a)
	}
	return floorOf(a)
}

// nearest tells the whole number nearest to a, and, if two are as near, the one that chosen picks.
func nearest(a *big.Rat, chosen func(low, high *big.Int) *big.Int) *big.Int {
	low := floorOf(a)
	high := new(big.Int).Add(low, whole(1))
	over := new(big.Rat).Sub(a, rat(low))
	switch twice(over).Cmp(rat(whole(1))) {
	case -1:
		return low
	case 1:
		return high
	}
	return chosen(low, high)
}

func evenOf(a *big.Rat) *big.Int {
	return nearest(a, func(low, high *big.Int) *big.Int {
		if low.Bit(0) == 0 {
			return low
		}
		return high
	})
}

func awayOf(a *big.Rat) *big.Int {
	return nearest(a, func(low, high *big.Int) *big.Int {
		if low.CmpAbs(high) > 0 {
			return low
		}
		return high
	})
}

// firstValue tells the least value of a step over a set that begins at a: of a itself, if it is an element, else of
// the reals next to it, among which the step does not change up to a half.
func firstValue(a limit, step func(*big.Rat) *big.Int) limit {
	if a.infinity != 0 {
		return a
	}
	x, _ := a.num.Rat(nil) // the ends here are numbers, den is 1
	if !a.in {
		half := new(big.Rat).SetFrac(new(big.Int).Add(floorOf(twice(x)), whole(1)), whole(2))
		x = new(big.Rat).Mul(new(big.Rat).Add(x, half), big.NewRat(1, 2))
	}
	return limit{0, room().SetInt(step(x)), exactly(1), true}
}

// values tells the values of a step over a set, of which none between the first and the last is left out.
func values(v span, step func(*big.Rat) *big.Int) span {
	turned := func(a *big.Rat) *big.Int { return minus(step(new(big.Rat).Neg(a))) }
	return span{firstValue(v.lo, step), firstValue(v.hi.minus(), turned).minus()}
}

// wholeBetween tells whether a whole number lies between two ends, of which none is a fraction, and in c.
func wholeBetween(s, c span) bool {
	lo, hi := s.lo, s.hi
	if up := firstValue(c.lo, ceilOf); order(lo, up) < 0 {
		lo = up
	}
	if down := firstValue(c.hi.minus(), ceilOf).minus(); order(down, hi) < 0 {
		hi = down
	}
	return order(lo, hi) <= 0
}
