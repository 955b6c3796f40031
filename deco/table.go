package deco

import (
	"verge/api"
	"verge/ival"
	"verge/power"
	"verge/rel"
	"verge/rev"
)

// The operations stand in maps by how many arguments they have: one that is asked with another number
// of them is not found. Those with one stand in three, so that no map has more than eight: such a one
// is made quickly, and one is made at every call.

// single: an operation of one argument: its range, what it leaves of x backward, whether it is not
// defined at some number of its argument, and whether it is a step.
type single struct {
	of   func(x api.Interval) api.Interval
	back func(c, x api.Interval) api.Interval
	gap  func(x api.Interval) bool
	step bool
}

// pair: an operation of two arguments: its range, what it leaves backward of the first one and of the
// second one, and whether it is not defined at some number of the second one.
type pair struct {
	of   func(x, y api.Interval) api.Interval
	back [2]fromPair
	gap  func(y api.Interval) bool
}

type fromPair func(other, c, x api.Interval) api.Interval

// triple: an operation of three arguments, which is defined everywhere.
type triple struct {
	of   func(x, y, z api.Interval) api.Interval
	back [3]fromTriple
}

type fromTriple func(one, other, c, x api.Interval) api.Interval

// alone finds an operation of one argument.
func alone(op, n int) (one single, ok bool) {
	if one, ok = smooth()[op]; ok {
		return one, true
	}
	if one, ok = steps()[op]; ok {
		return one, true
	}
	one, ok = powers(n)[op]
	return one, ok
}

func smooth() map[int]single {
	return map[int]single{
		api.OpId:    {ival.Read, rel.Intersect, nowhere, false},
		api.OpNeg:   {ival.Neg, rev.NegRev, nowhere, false},
		api.OpRecip: {ival.Recip, rev.RecipRev, atNought, false},
		api.OpSqr:   {ival.Sqr, rev.SqrRev, nowhere, false},
		api.OpSqrt:  {ival.Sqrt, rev.SqrtRev, belowNought, false},
		api.OpAbs:   {power.Abs, rev.AbsRev, nowhere, false},
	}
}

func steps() map[int]single {
	return map[int]single{
		api.OpSign:      {power.Sign, rev.SignRev, nowhere, true},
		api.OpFloor:     {power.Floor, rev.FloorRev, nowhere, true},
		api.OpCeil:      {power.Ceil, rev.CeilRev, nowhere, true},
		api.OpTrunc:     {power.Trunc, rev.TruncRev, nowhere, true},
		api.OpRoundEven: {power.RoundEven, rev.RoundEvenRev, nowhere, true},
		api.OpRoundAway: {power.RoundAway, rev.RoundAwayRev, nowhere, true},
	}
}

func powers(n int) map[int]single {
	of := func(x api.Interval) api.Interval { return power.Pown(x, n) }
	back := func(c, x api.Interval) api.Interval { return rev.PownRev(n, c, x) }
	return map[int]single{
		api.OpPown: {of, back, powerGap(n), false},
	}
}

func pairs() map[int]pair {
	return map[int]pair{
		api.OpAdd: {ival.Add, [2]fromPair{rev.AddRev, rev.AddRev}, nowhere},
		api.OpSub: {ival.Sub, [2]fromPair{rev.SubRev1, rev.SubRev2}, nowhere},
		api.OpMul: {ival.Mul, [2]fromPair{rev.MulRev, rev.MulRev}, nowhere},
		api.OpDiv: {ival.Div, [2]fromPair{rev.DivRev1, rev.DivRev2}, atNought},
		api.OpMin: {power.Min, [2]fromPair{rev.MinRev, rev.MinRev}, nowhere},
		api.OpMax: {power.Max, [2]fromPair{rev.MaxRev, rev.MaxRev}, nowhere},
	}
}

func triples() map[int]triple {
	return map[int]triple{
		api.OpFMA: {ival.FMA, [3]fromTriple{rev.FMARev, rev.FMARev, rev.FMARevAdd}},
	}
}

func nowhere(api.Interval) bool { return false }

func everywhere(api.Interval) bool { return true }

func atNought(x api.Interval) bool { return rel.Member(0, x) }

func belowNought(x api.Interval) bool { return ival.Read(x).Lo < 0 }

// powerGap tells where a power is not defined: beyond the limit nothing is sure of it.
func powerGap(n int) func(x api.Interval) bool {
	switch {
	case n < -api.MaxPow || n > api.MaxPow:
		return everywhere
	case n < 0:
		return atNought
	}
	return nowhere
}
