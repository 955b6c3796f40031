package pare

import (
	"verge/api"
	"verge/rel"
	"verge/rev"
)

// undo narrows the values of a line's operands; y is the line's own. An operand that stands twice is
// narrowed twice, from what is left of it: so each call is made of the values as they stand then.
type undo func(known []api.Interval, y api.Interval)

// undoOf tells what a line does backward.
func undoOf(in api.Ins) undo {
	switch in.Op {
	case api.OpConst:
		return constant{}.narrow
	case api.OpId:
		return single{in, rel.Intersect}.narrow
	case api.OpNeg:
		return single{in, rev.NegRev}.narrow
	case api.OpAdd:
		return pair{in, rev.AddRev, rev.AddRev}.narrow
	case api.OpSub:
		return pair{in, rev.SubRev1, rev.SubRev2}.narrow
	case api.OpMul:
		return pair{in, rev.MulRev, rev.MulRev}.narrow
	case api.OpDiv:
		return pair{in, rev.DivRev1, rev.DivRev2}.narrow
	case api.OpRecip:
		return single{in, rev.RecipRev}.narrow
	case api.OpSqr:
		return single{in, rev.SqrRev}.narrow
	case api.OpSqrt:
		return single{in, rev.SqrtRev}.narrow
	case api.OpFMA:
		return fused{in}.narrow
	case api.OpPown:
		return single{in, powered(in.N).back}.narrow
	case api.OpAbs:
		return single{in, rev.AbsRev}.narrow
	case api.OpMin:
		return pair{in, rev.MinRev, rev.MinRev}.narrow
	case api.OpMax:
		return pair{in, rev.MaxRev, rev.MaxRev}.narrow
	}
	return single{in, stepBack(in.Op)}.narrow
}

// stepBack tells the reverse of a step.
func stepBack(op int) func(c, x api.Interval) api.Interval {
	switch op {
	case api.OpSign:
		return rev.SignRev
	case api.OpFloor:
		return rev.FloorRev
	case api.OpCeil:
		return rev.CeilRev
	case api.OpTrunc:
		return rev.TruncRev
	case api.OpRoundEven:
		return rev.RoundEvenRev
	}
	return rev.RoundAwayRev
}

// constant is a line without operands.
type constant struct{}

func (constant) narrow(_ []api.Interval, _ api.Interval) {}

// single is a line with one operand, and the reverse of its operation.
type single struct {
	api.Ins
	back func(c, x api.Interval) api.Interval
}

func (l single) narrow(known []api.Interval, y api.Interval) {
	known[l.A] = l.back(y, known[l.A])
}

// powered is the power of a line.
type powered int

func (n powered) back(c, x api.Interval) api.Interval { return rev.PownRev(int(n), c, x) }

// pair is a line with two operands, and the reverses of its operation for the first and for the
// second one, each of which is handed the other operand's value.
type pair struct {
	api.Ins
	first, second func(other, c, x api.Interval) api.Interval
}

func (l pair) narrow(known []api.Interval, y api.Interval) {
	known[l.A] = l.first(known[l.B], y, known[l.A])
	known[l.B] = l.second(known[l.A], y, known[l.B])
}

// fused is a line with three operands: the first one times the second one, and the third one added.
type fused struct{ api.Ins }

func (l fused) narrow(known []api.Interval, y api.Interval) {
	known[l.A] = rev.FMARev(known[l.B], known[l.C], y, known[l.A])
	known[l.B] = rev.FMARev(known[l.A], known[l.C], y, known[l.B])
	known[l.C] = rev.FMARevAdd(known[l.A], known[l.B], y, known[l.C])
}
