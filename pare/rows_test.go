package pare_test

import (
	"slices"
	"testing"

	"verge/api"
	"verge/expr"
)

// P19.2: the rows of the table, worked out by hand, and by the words.

func TestRowsOfOneOperand(t *testing.T) {
	for _, row := range []struct {
		op         int
		c, x, left api.Interval
	}{
		{api.OpId, iv(3, 20), iv(0, 10), iv(3, 10)},
		{api.OpId, iv(-3, 4), iv(0, 10), iv(0, 4)},
		{api.OpId, one(10), iv(0, 10), one(10)},
		{api.OpId, iv(11, 12), iv(0, 10), empty},
		{api.OpNeg, iv(-4, -2), iv(0, 10), iv(2, 4)},
		{api.OpNeg, iv(1, 2), iv(0, 10), empty},
		{api.OpNeg, iv(-1, 0), iv(-5, 10), iv(0, 1)},
		{api.OpRecip, iv(0.25, 0.5), iv(-10, 10), iv(2, 4)},
		{api.OpRecip, iv(-1, 2), iv(0, 10), iv(0.5, 10)},
		{api.OpRecip, iv(-0.5, 0.25), iv(-10, 10), iv(-10, 10)},
		{api.OpRecip, one(0), iv(-10, 10), empty},
		{api.OpRecip, one(0), entire, empty},
		{api.OpRecip, entire, one(0), empty},
		{api.OpSqr, iv(-9, 4), iv(-10, 10), iv(-2, 2)},
		{api.OpSqr, iv(4, 9), iv(-10, 0), iv(-3, -2)},
		{api.OpSqr, one(2), iv(1, 2), iv(0x1.6a09e667f3bccp+0, 0x1.6a09e667f3bcdp+0)},
		{api.OpSqr, iv(4, 9), iv(-1, 1), empty},
		{api.OpSqrt, iv(2, 9), iv(-5, 9), iv(4, 9)},
		{api.OpSqrt, entire, iv(-5, 9), iv(0, 9)},
		{api.OpSqrt, iv(-2, 0), iv(-5, 9), one(0)},
		{api.OpSqrt, iv(-2, -1), iv(-5, 9), empty},
		{api.OpAbs, iv(2, 5), iv(0, 10), iv(2, 5)},
		{api.OpAbs, iv(2, 5), iv(-10, 3), iv(-5, 3)},
		{api.OpAbs, iv(2, 5), iv(-10, 1), iv(-5, -2)},
		{api.OpAbs, iv(-5, 0), iv(-10, 1), one(0)},
		{api.OpAbs, iv(-5, -1), iv(-10, 1), empty},
	} {
		leaves(t, alone(row.op, 0, row.c), box{row.x}, row.left)
	}
}

func TestRowsOfSteps(t *testing.T) {
	for _, row := range []struct {
		op         int
		c, x, left api.Interval
	}{
		{api.OpSign, one(1), iv(-5, 9), iv(0, 9)},
		{api.OpSign, one(0), iv(-5, 9), one(0)},
		{api.OpSign, iv(-1, -0.5), iv(-5, 9), iv(-5, 0)},
		{api.OpSign, iv(0.25, 0.5), iv(-5, 9), empty},
		{api.OpFloor, iv(1, 2), iv(-5, 9), iv(1, 3)},
		{api.OpFloor, iv(-2, -1), iv(-5, 9), iv(-2, 0)},
		{api.OpFloor, iv(1.25, 1.75), iv(-5, 9), empty},
		{api.OpFloor, one(2), iv(1, 2), one(2)},
		{api.OpCeil, iv(1, 2), iv(-5, 9), iv(0, 2)},
		{api.OpCeil, iv(-2, -1), iv(-5, 9), iv(-3, -1)},
		{api.OpCeil, one(1), iv(1, 2), one(1)},
		{api.OpTrunc, iv(1, 2), iv(-5, 9), iv(1, 3)},
		{api.OpTrunc, iv(-2, -1), iv(-5, 9), iv(-3, -1)},
		{api.OpTrunc, one(0), iv(-5, 9), iv(-1, 1)},
		{api.OpRoundEven, one(1), iv(-5, 9), iv(0.5, 1.5)},
		{api.OpRoundEven, one(1), iv(1, 1.5), iv(1, 1.5)},
		{api.OpRoundEven, one(2), iv(1, 1.5), one(1.5)},
		{api.OpRoundEven, one(0), one(0.5), one(0.5)},
		{api.OpRoundEven, one(3), iv(1.5, 2.5), empty},
		{api.OpRoundEven, iv(1.25, 1.75), iv(-5, 9), empty},
		{api.OpRoundAway, one(1), iv(-5, 9), iv(0.5, 1.5)},
		{api.OpRoundAway, one(2), iv(1, 1.5), one(1.5)},
		{api.OpRoundAway, one(0), one(0.5), empty},
		{api.OpRoundAway, one(3), iv(1.5, 2.5), one(2.5)},
		{api.OpRoundAway, one(-1), iv(-0.5, 0.5), one(-0.5)},
	} {
		leaves(t, alone(row.op, 0, row.c), box{row.x}, row.left)
	}
}

func TestRowsOfPowers(t *testing.T) {
	for _, row := range []struct {
		n          int
		c, x, left api.Interval
	}{
		{0, one(1), iv(-3, 4), iv(-3, 4)},
		{0, iv(0, 2), entire, entire},
		{0, one(1), one(0), one(0)},
		{0, iv(2, 3), iv(-3, 4), empty},
		{1, iv(3, 20), iv(0, 10), iv(3, 10)},
		{1, entire, iv(0, 10), iv(0, 10)},
		{-1, iv(0.25, 0.5), iv(-10, 10), iv(2, 4)},
		{-1, one(0), iv(-10, 10), empty},
		{-1, entire, one(0), empty},
		{2, iv(4, 9), iv(0, 10), iv(2, 3)},
		{3, iv(-8, 27), entire, iv(-2, 3)},
		{3, iv(8, 27), iv(-10, 10), iv(2, 3)},
		{-2, iv(0.25, 1), entire, iv(-2, 2)},
		{-2, iv(0.25, 1), iv(0, 10), iv(1, 2)},
		{-3, one(-0.125), iv(-10, 10), one(-2)},
		{api.MaxPow, one(1), iv(0, 10), one(1)},
		{api.MaxPow, one(1), iv(-10, 10), iv(-1, 1)},
		{api.MaxPow, iv(0x1p-1024, 1), iv(0, 10), iv(0.5, 1)},
		{api.MaxPow, iv(-1, 0), iv(-10, 10), one(0)},
		{api.MaxPow, iv(-2, -1), iv(-10, 10), empty},
		{-api.MaxPow, one(1), iv(0, 10), one(1)},
		{-api.MaxPow, iv(0x1p-1024, 1), iv(0, 10), iv(1, 2)},
		{-api.MaxPow, iv(0x1p-1024, 1), iv(-10, 1), iv(-2, 1)},
		{-api.MaxPow, entire, one(0), empty},
		{api.MaxPow - 1, one(-1), iv(-10, 10), one(-1)},
		{1 - api.MaxPow, one(-1), iv(-10, 10), one(-1)},
	} {
		leaves(t, alone(api.OpPown, row.n, row.c), box{row.x}, row.left)
	}
}

func TestRowsOfTwoOperands(t *testing.T) {
	for _, row := range []struct {
		op          int
		c, x, y     api.Interval
		left, right api.Interval
	}{
		{api.OpAdd, iv(1, 2), iv(0, 9), iv(-1, 3), iv(0, 3), iv(-1, 2)},
		{api.OpAdd, iv(15, 20), iv(0, 9), iv(0, 8), iv(7, 9), iv(6, 8)},
		{api.OpSub, one(1), iv(0, 5), iv(0, 5), iv(1, 5), iv(0, 4)},
		{api.OpSub, iv(3, 4), iv(0, 10), iv(5, 20), iv(8, 10), iv(5, 7)},
		{api.OpSub, iv(-8, -6), iv(1, 4), iv(0, 9), iv(1, 3), iv(7, 9)},
		{api.OpMul, iv(2, 8), iv(-4, -1), iv(-10, 10), iv(-4, -1), iv(-8, -0.5)},
		{api.OpMul, iv(2, 8), iv(-10, 10), iv(-4, -1), iv(-8, -0.5), iv(-4, -1)},
		{api.OpMul, one(1), iv(-0.25, 4), iv(-2, 2), iv(0.5, 4), iv(0.25, 2)},
		{api.OpMul, one(0), iv(1, 2), iv(-1, 5), iv(1, 2), one(0)},
		{api.OpMul, one(0), iv(0, 2), iv(0, 5), iv(0, 2), iv(0, 5)},
		{api.OpDiv, iv(3, 4), iv(0, 100), iv(2, 5), iv(6, 20), iv(2, 5)},
		{api.OpDiv, iv(4, 8), iv(16, 20), iv(1, 100), iv(16, 20), iv(2, 5)},
		{api.OpDiv, iv(4, 8), iv(1, 100), iv(16, 20), iv(64, 100), iv(16, 20)},
		{api.OpDiv, iv(-2, 2), iv(0, 9), iv(0, 2), iv(0, 4), iv(0, 2)},
		{api.OpDiv, one(0), iv(-3, 9), iv(1, 2), one(0), iv(1, 2)},
		{api.OpDiv, one(0), iv(1, 9), entire, empty, empty},
		{api.OpMin, one(3), iv(0, 9), iv(4, 9), one(3), iv(4, 9)},
		{api.OpMin, one(3), iv(4, 9), iv(0, 9), iv(4, 9), one(3)},
		{api.OpMin, iv(2, 3), iv(0, 9), iv(1, 9), iv(2, 9), iv(2, 9)},
		{api.OpMin, iv(2, 3), iv(2.5, 2.75), iv(0, 9), iv(2.5, 2.75), iv(2, 9)},
		{api.OpMax, one(3), iv(0, 9), iv(-4, 9), iv(0, 3), iv(-4, 3)},
		{api.OpMax, iv(3, 4), iv(0, 9), iv(-4, 2), iv(3, 4), iv(-4, 2)},
		{api.OpMax, iv(3, 4), iv(-4, 2), iv(0, 9), iv(-4, 2), iv(3, 4)},
	} {
		leaves(t, two(row.op, row.c), box{row.x, row.y}, row.left, row.right)
		// The same with the variables' numbers exchanged, and a third one that plays no part.
		g := goal(3, nil, row.c, api.Ins{Op: row.op, A: 2, B: 1})
		third := iv(-7, 7)
		if row.left == empty {
			third = empty
		}
		leaves(t, g, box{iv(-7, 7), row.y, row.x}, third, row.right, row.left)
	}
}

func TestRowsOfThreeOperands(t *testing.T) {
	fma := goal(3, nil, one(8), api.Ins{Op: api.OpFMA, A: 0, B: 1, C: 2})
	// x is at most 8 by 1, then y at most 8 by 2, then z at most 8 - 2 times 1.
	leaves(t, fma, box{iv(2, 10), iv(1, 5), iv(0, 8)}, iv(2, 8), iv(1, 4), iv(0, 6))
	leaves(t, fma, box{iv(1, 5), iv(2, 10), iv(0, 8)}, iv(1, 4), iv(2, 8), iv(0, 6))
	leaves(t, fma, box{iv(-3, 3), iv(0, 1), iv(4, 20)}, iv(-3, 3), iv(0, 1), iv(5, 11))
	leaves(t, fma, box{iv(0, 1), iv(0, 1), iv(0, 6)}, empty, empty, empty)
	fma.P.Code[0] = api.Ins{Op: api.OpFMA, A: 2, B: 0, C: 1}
	leaves(t, fma, box{iv(1, 5), iv(0, 8), iv(2, 10)}, iv(1, 4), iv(0, 6), iv(2, 8))
}

// One operand in several places: it is narrowed in each, from what the one ahead has left.
func TestRowsOfTheSameOperand(t *testing.T) {
	leaves(t, alone(api.OpAdd, 0, one(15)), box{iv(0, 10)}, iv(5, 10))
	leaves(t, alone(api.OpAdd, 0, one(8)), box{iv(0, 10)}, iv(0, 8))
	leaves(t, alone(api.OpSub, 0, one(3)), box{iv(0, 10)}, iv(3, 7))
	leaves(t, alone(api.OpSub, 0, one(-3)), box{iv(0, 10)}, iv(3, 7))
	leaves(t, alone(api.OpSub, 0, one(3)), box{iv(0, 5)}, empty)
	leaves(t, alone(api.OpMul, 0, iv(4, 16)), box{iv(1, 32)}, iv(1, 16))
	leaves(t, alone(api.OpDiv, 0, one(2)), box{iv(1, 16)}, iv(2, 8))
	leaves(t, alone(api.OpDiv, 0, one(2)), box{iv(1, 3)}, empty)
	leaves(t, alone(api.OpMin, 0, iv(2, 3)), box{iv(0, 9)}, iv(2, 9))
	leaves(t, alone(api.OpMax, 0, iv(2, 3)), box{iv(0, 9)}, iv(0, 3))
	leaves(t, alone(api.OpFMA, 0, one(18)), box{iv(1, 4)}, iv(3.5, 4))
	// x y + x with -1 for y, then y x + x, then x x + y.
	leaves(t, goal(2, nil, one(3), api.Ins{Op: api.OpFMA, A: 0, B: 1, C: 0}), box{iv(0, 10), one(-1)}, iv(3, 7), one(-1))
	leaves(t, goal(2, nil, one(3), api.Ins{Op: api.OpFMA, A: 1, B: 0, C: 0}), box{iv(0, 10), one(-1)}, iv(3, 7), one(-1))
	leaves(t, goal(2, nil, one(3), api.Ins{Op: api.OpFMA, A: 1, B: 0, C: 0}), box{iv(0, 5), one(-1)}, empty, empty)
	leaves(t, goal(2, nil, one(16), api.Ins{Op: api.OpFMA, A: 0, B: 0, C: 1}), box{iv(1, 10), iv(8, 20)}, iv(1, 8), iv(8, 15))
}

// What is left of a line is what the lines ahead of it are narrowed by, a constant's value too.
func TestLinesAhead(t *testing.T) {
	chain := goal(1, box{one(1)}, iv(0.125, 0.5), api.Ins{Op: api.OpConst}, api.Ins{Op: api.OpSqr, A: 0}, api.Ins{Op: api.OpAdd, A: 1, B: 2}, api.Ins{Op: api.OpRecip, A: 3})
	leaves(t, chain, box{iv(0, 9)}, iv(1, 0x1.52a7fa9d2f8eap+1))
	// (x + c) c in 110, c from 1 to 10: x + c is 11, so c is 10, so x is 1.
	spread := goal(1, box{iv(1, 10)}, one(110), api.Ins{Op: api.OpConst}, api.Ins{Op: api.OpAdd, A: 0, B: 1}, api.Ins{Op: api.OpMul, A: 2, B: 1})
	leaves(t, spread, box{iv(0, 1)}, one(1))
	// With a line of its own for each c it is not known that they are one.
	spread.P.Code = []api.Ins{{Op: api.OpConst}, {Op: api.OpConst}, {Op: api.OpAdd, A: 0, B: 1}, {Op: api.OpMul, A: 3, B: 2}}
	leaves(t, spread, box{iv(0, 2)}, iv(1, 2))
	// t = 2 x; t + t: a line that stands twice.
	twice := goal(1, box{one(2)}, one(12), api.Ins{Op: api.OpConst}, api.Ins{Op: api.OpMul, A: 0, B: 1}, api.Ins{Op: api.OpAdd, A: 2, B: 2})
	leaves(t, twice, box{iv(0, 4)}, iv(2, 4))
	// x y, and x y - x: a line that is used by one, and a variable that is used by two.
	both := goal(2, nil, one(6), api.Ins{Op: api.OpMul, A: 0, B: 1}, api.Ins{Op: api.OpSub, A: 2, B: 0})
	leaves(t, both, box{iv(1, 2), iv(0, 8)}, iv(1, 2), iv(3.5, 8))
}

// A line that is not used is gone through all the same: what it is not defined at is taken off.
func TestLinesNotUsed(t *testing.T) {
	for _, row := range []struct {
		in      api.Ins
		x, left api.Interval
	}{
		{api.Ins{Op: api.OpSqrt}, iv(-5, 9), iv(0, 9)},
		{api.Ins{Op: api.OpRecip}, iv(0, 9), iv(0, 9)},
		{api.Ins{Op: api.OpSqr}, iv(-5, 9), iv(-5, 9)},
		{api.Ins{Op: api.OpFloor}, iv(-5.5, 9.5), iv(-5.5, 9.5)},
		{api.Ins{Op: api.OpConst}, iv(-5, 9), iv(-5, 9)},
		{api.Ins{Op: api.OpSqrt}, iv(-5, -1), empty},
		{api.Ins{Op: api.OpRecip}, one(0), empty},
	} {
		y := iv(1, 2)
		if row.left == empty {
			y = empty
		}
		leaves(t, goal(2, box{one(1)}, entire, row.in, api.Ins{Op: api.OpId, A: 1}), box{row.x, iv(1, 2)}, row.left, y)
		leaves(t, goal(2, box{one(1)}, iv(0, 1.5), api.Ins{Op: api.OpId, A: 1}, row.in, api.Ins{Op: api.OpId, A: 1}), box{row.x, iv(1, 2)}, row.left, rest(y, 1.5))
	}
}

// rest tells an interval up to a number.
func rest(x api.Interval, hi float64) api.Interval {
	if x == empty {
		return empty
	}
	return iv(x.Lo, min(x.Hi, hi))
}

// A value that is Empty going forward: at the first line, in the midst, at the last one; a constant.
func TestEmptyForward(t *testing.T) {
	root := api.Ins{Op: api.OpSqrt}
	leavesNothing(t, goal(2, nil, entire, root, api.Ins{Op: api.OpId, A: 1}, api.Ins{Op: api.OpId, A: 1}), box{iv(-2, -1), iv(1, 2)})
	leavesNothing(t, goal(2, nil, entire, api.Ins{Op: api.OpId, A: 1}, root, api.Ins{Op: api.OpId, A: 1}), box{iv(-2, -1), iv(1, 2)})
	leavesNothing(t, goal(2, nil, entire, api.Ins{Op: api.OpId, A: 1}, api.Ins{Op: api.OpId, A: 1}, root), box{iv(-2, -1), iv(1, 2)})
	leavesNothing(t, goal(2, nil, entire, api.Ins{Op: api.OpDiv, A: 0, B: 1}), box{iv(-2, -1), one(0)})
	void := goal(1, box{one(1), empty}, entire, api.Ins{Op: api.OpConst, N: 1}, api.Ins{Op: api.OpId, A: 0})
	leavesNothing(t, void, box{iv(1, 2)})
	void.P.Code[0].N = 0 // and Empty is named by no line
	leaves(t, void, box{iv(1, 2)}, iv(1, 2))
	void.P.Code = []api.Ins{{Op: api.OpConst, N: 1}}
	leavesNothing(t, void, box{iv(1, 2)})
}

// A value that becomes Empty going backward: by C alone, at the last line, in the midst, at the first one.
func TestEmptyBackward(t *testing.T) {
	leavesNothing(t, two(api.OpAdd, iv(20, 30)), box{iv(0, 4), iv(3, 9)})
	leavesNothing(t, goal(2, nil, one(3), api.Ins{Op: api.OpSub}), box{iv(0, 5), iv(1, 2)})
	half := api.Ins{Op: api.OpConst}
	// 2 floor(x) from 2.5 to 3.5: floor(x) is from 1.25 to 1.75.
	first := goal(2, box{one(2)}, iv(2.5, 3.5), api.Ins{Op: api.OpFloor, A: 0}, half, api.Ins{Op: api.OpMul, A: 2, B: 3})
	leavesNothing(t, first, box{iv(0, 5), iv(1, 2)})
	first.C = iv(2.5, 4.5)
	leaves(t, first, box{iv(0, 5), iv(1, 2)}, iv(2, 3), iv(1, 2))
	// 2 floor(x + y), with lines ahead of it and behind it.
	midst := goal(3, box{one(2)}, iv(2.5, 3.5), api.Ins{Op: api.OpAdd, A: 0, B: 1}, half, api.Ins{Op: api.OpFloor, A: 3}, api.Ins{Op: api.OpMul, A: 5, B: 4}, api.Ins{Op: api.OpId, A: 6})
	leavesNothing(t, midst, box{iv(0, 5), iv(1, 2), iv(-1, 1)})
	// As a first operand, and as a second one, of lines whose other operand stays.
	leavesNothing(t, goal(2, box{one(1)}, entire, api.Ins{Op: api.OpSub, A: 0, B: 0}, half, api.Ins{Op: api.OpSub, A: 2, B: 3}, api.Ins{Op: api.OpSqrt, A: 4}), box{one(3), iv(1, 2)})
	// A constant that C leaves nothing of; no variable has a part in it.
	leavesNothing(t, goal(2, box{iv(1, 2)}, iv(3, 4), api.Ins{Op: api.OpConst}), box{iv(1, 2), iv(3, 4)})
	// A constant that is narrowed to nothing, in a line that does not hang on the variables.
	leavesNothing(t, goal(1, box{iv(0, 5), one(2)}, iv(2.5, 3.5), api.Ins{Op: api.OpConst}, api.Ins{Op: api.OpFloor, A: 1}, api.Ins{Op: api.OpConst, N: 1}, api.Ins{Op: api.OpMul, A: 2, B: 3}), box{iv(1, 2)})
}

// Programs of no variables, and of a last line that is a constant.
func TestOddPrograms(t *testing.T) {
	for _, c := range []api.Interval{entire, one(1), iv(5, 6), empty, iv(nan, 1)} {
		for _, b := range []box{nil, {}} {
			leaves(t, goal(0, box{iv(1, 2)}, c, api.Ins{Op: api.OpConst}), b)
			leaves(t, goal(0, box{iv(1, 2)}, c, api.Ins{Op: api.OpConst}, api.Ins{Op: api.OpFMA}, api.Ins{Op: api.OpSqrt, A: 1}), b)
			leaves(t, goal(0, box{iv(-2, -1)}, c, api.Ins{Op: api.OpConst}, api.Ins{Op: api.OpSqrt}), b)
			leaves(t, goal(0, box{empty}, c, api.Ins{Op: api.OpConst}), b)
		}
	}
	last := goal(2, box{iv(1, 2)}, iv(2, 3), api.Ins{Op: api.OpSqrt, A: 1}, api.Ins{Op: api.OpConst})
	leaves(t, last, box{iv(3, 4), iv(-5, 6)}, iv(3, 4), iv(0, 6))
	leaves(t, last, box{entire, entire}, entire, iv(0, inf))
	last.C = iv(2.5, 3)
	leavesNothing(t, last, box{iv(3, 4), iv(-5, 6)})
	leaves(t, goal(1, nil, iv(1, 2), api.Ins{Op: api.OpPown, A: 0, N: 0}), box{iv(-5, 6)}, iv(-5, 6))
}

// Parts that are Empty, unbounded, single numbers, with -0, or no intervals.
func TestPartsAsTheyAreRead(t *testing.T) {
	for _, x := range append(wrongs(), valids()...) {
		id := goal(2, nil, entire, api.Ins{Op: api.OpId, A: 0})
		if read(x) == empty {
			leavesNothing(t, id, box{x, iv(1, 2)})
			leavesNothing(t, id, box{iv(1, 2), x})
			leavesNothing(t, two(api.OpAdd, entire), box{iv(1, 2), x})
		} else {
			leaves(t, id, box{x, iv(1, 2)}, read(x), iv(1, 2))
			leaves(t, id, box{iv(1, 2), x}, iv(1, 2), read(x))
		}
		for _, op := range ops()[1:] {
			for _, c := range append(wrongs(), valids()...) {
				asked(t, alone(op, 0, c), box{x})
				asked(t, two(api.OpMul, c), box{x, iv(-1, 3)})
			}
		}
	}
}

// A C that is Empty, unbounded, a single number, with -0, or no interval.
func TestGoalsAsTheyAreRead(t *testing.T) {
	for _, c := range append(wrongs(), valids()...) {
		if read(c) == empty {
			leavesNothing(t, alone(api.OpId, 0, c), box{entire})
			leavesNothing(t, two(api.OpMax, c), box{iv(1, 2), entire})
			leavesNothing(t, goal(1, box{entire}, c, api.Ins{Op: api.OpConst}), box{iv(1, 2)})
		} else {
			leaves(t, alone(api.OpId, 0, c), box{entire}, read(c))
			leaves(t, alone(api.OpPown, 1, c), box{entire}, read(c))
			leaves(t, goal(1, box{entire}, c, api.Ins{Op: api.OpConst}), box{iv(1, 2)}, iv(1, 2))
		}
	}
	leaves(t, alone(api.OpNeg, 0, iv(-3, signed)), box{iv(-7, 7)}, iv(0, 3))
	leaves(t, alone(api.OpSqr, 0, iv(signed, signed)), box{iv(-7, 7)}, one(0))
	leaves(t, alone(api.OpAbs, 0, iv(-inf, 3)), box{entire}, iv(-3, 3))
	leaves(t, two(api.OpAdd, iv(-inf, 3)), box{iv(1, inf), iv(1, inf)}, iv(1, 2), iv(1, 2))
	leaves(t, two(api.OpMul, iv(1, inf)), box{iv(0, 0.5), entire}, iv(0, 0.5), iv(2, inf))
}

// Each operation, its operands a variable, another one, a constant, a line ahead: in all ways.
func TestOperands(t *testing.T) {
	boxes := []box{{iv(1, 2), iv(3, 5)}, {iv(-1, 2), iv(-0.5, 1)}, {one(1), one(1)}, {iv(0.1, 0.3), iv(-0.7, 0.1)}, {entire, iv(1, inf)}, {iv(-3, -1), one(0)}}
	d := dice(19020)
	narrowed, void := 0, 0
	for _, constant := range []api.Interval{one(1), iv(0.25, 2), iv(-1, 1)} {
		for _, op := range ops() {
			for _, in := range placed(op) {
				p := api.Program{Vars: 2, Consts: box{constant}, Code: []api.Ins{{Op: api.OpConst}, {Op: api.OpMul, A: 0, B: 1}, in}}
				for _, b := range boxes {
					for _, g := range []api.Goal{d.aim(p, b), d.aim(p, b), {P: p, C: entire}} {
						left := asked(t, g, b)
						if slices.Contains(left, empty) {
							void++
						} else if !sameBox(left, b) {
							narrowed++
						}
					}
				}
			}
		}
	}
	if narrowed < 1000 || void < 300 {
		t.Errorf("only %d boxes that were narrowed, %d of which nothing is left", narrowed, void)
	}
}

// placed tells the lines of an operation with all operands below 4, and some powers.
func placed(op int) []api.Ins {
	out := []api.Ins{{Op: op}}
	for _, name := range uses(op) {
		var more []api.Ins
		for _, in := range out {
			for _, x := range choices(op, name) {
				*field(&in, name) = x
				more = append(more, in)
			}
		}
		out = more
	}
	return out
}

func choices(op int, name rune) []int {
	switch {
	case name != 'N':
		return []int{0, 1, 2, 3}
	case op == api.OpPown:
		return []int{0, 1, -1, 2, -2, 3, -3, 7, api.MaxPow, -api.MaxPow}
	}
	return []int{0}
}

// Programs as they fall, over boxes as they fall.
func TestProgramsByWords(t *testing.T) {
	d := dice(19021)
	var narrowed, void, kept int
	for range 12000 {
		p := d.any()
		b := list(p.Vars, d.part)
		left := asked(t, d.aim(p, b), b)
		switch {
		case slices.Contains(left, empty):
			void++
		case sameBox(left, readBox(b)):
			kept++
		default:
			narrowed++
		}
	}
	if narrowed < 2000 || void < 1000 || kept < 1000 {
		t.Errorf("only %d boxes that were narrowed, %d of which nothing is left, %d of which all is", narrowed, void, kept)
	}
	for range 6000 {
		p := d.any()
		asked(t, api.Goal{P: p, C: d.wild()}, list(p.Vars, d.wild))
	}
}

// At the limits all is well.
func TestLimits(t *testing.T) {
	d := dice(19022)
	smooth := []int{api.OpConst, api.OpId, api.OpNeg, api.OpAdd, api.OpSub, api.OpMul, api.OpAbs, api.OpMin, api.OpMax, api.OpSqr, api.OpFMA, api.OpFloor}
	p := api.Program{Vars: api.MaxVars, Consts: list(api.MaxConsts, d.bounded)}
	for len(p.Code) < api.MaxCode {
		in, _ := d.line(pick(&d, smooth...), len(p.Code), p.Vars, len(p.Consts))
		p.Code = append(p.Code, in)
	}
	if _, e := expr.Check(p); e != api.OK {
		t.Fatal(e)
	}
	b := list(p.Vars, d.bounded)
	for range 4 {
		asked(t, d.aim(p, b), b)
	}
	// All variables play a part, and each is narrowed: x0 + x1 + .. from 0 to 4 each, at its least.
	sum := goal(api.MaxVars, nil, iv(-1, 2), api.Ins{Op: api.OpAdd, A: 0, B: 1})
	for v := 2; v < api.MaxVars; v++ {
		sum.P.Code = append(sum.P.Code, api.Ins{Op: api.OpAdd, A: v, B: sum.P.Vars + v - 2})
	}
	filled := func(x api.Interval) box { return list(api.MaxVars, func() api.Interval { return x }) }
	leaves(t, sum, filled(iv(0, 4)), filled(iv(0, 2))...)
	// A thousand lines through which the one value goes.
	for len(sum.P.Code) < api.MaxCode {
		sum.P.Code = append(sum.P.Code, api.Ins{Op: api.OpNeg, A: sum.P.Vars + len(sum.P.Code) - 1})
	}
	leaves(t, sum, filled(iv(0, 4)), filled(iv(0, 1))...) // an odd number of them
	sum.C = iv(-2, 1)
	leaves(t, sum, filled(iv(0, 4)), filled(iv(0, 2))...)
}
