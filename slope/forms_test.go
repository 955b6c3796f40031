package slope_test

import (
	"math"
	"testing"

	"verge/api"
)

// P18.2 and P18.3, worked out by hand.

// less tells x - x, to which a constant is added.
func less(c api.Interval) api.Program {
	return api.Program{Vars: 1, Consts: box{c}, Code: []api.Ins{{Op: api.OpSub}, {Op: api.OpConst}, {Op: api.OpAdd, A: 1, B: 2}}}
}

// against tells x - c.
func against(c float64) api.Program {
	return api.Program{Vars: 1, Consts: box{one(c)}, Code: []api.Ins{{Op: api.OpConst}, {Op: api.OpSub, A: 0, B: 1}}}
}

// back is x + y - x.
func back() api.Program {
	return api.Program{Vars: 2, Code: []api.Ins{{Op: api.OpAdd, A: 0, B: 1}, {Op: api.OpSub, A: 2, B: 0}}}
}

// Where Eval's answer is Empty.
func TestMeanOfNothing(t *testing.T) {
	meanIs(t, alone(api.OpSqrt, 0), box{iv(-2, -1)}, empty)
	meanIs(t, alone(api.OpRecip, 0), box{one(0)}, empty)
	meanIs(t, back(), box{iv(1, 2), empty}, empty)
	meanIs(t, back(), box{iv(2, 1), iv(1, 2)}, empty)
	unused := api.Program{Vars: 1, Consts: box{empty}, Code: []api.Ins{{Op: api.OpConst}, {Op: api.OpId, A: 0}}}
	meanIs(t, unused, box{iv(1, 2)}, empty)
	meanIs(t, api.Program{Consts: box{one(-1)}, Code: []api.Ins{{Op: api.OpConst}, {Op: api.OpSqrt}}}, nil, empty)
}

// Where the program is not defined at the middle, Eval's answer is all there is.
func TestMeanWithoutMiddle(t *testing.T) {
	meanIs(t, alone(api.OpSqrt, 0), box{iv(-4, 1)}, iv(0, 1))
	meanIs(t, alone(api.OpRecip, 0), box{entire}, entire)
	meanIs(t, alone(api.OpRecip, 0), box{iv(-least, 0)}, iv(-inf, -greatest)) // the middle is rounded to 0
	// x - x + 1/y: without a middle of y nothing of x - x is seen.
	p := api.Program{Vars: 2, Code: []api.Ins{{Op: api.OpRecip, A: 1}, {Op: api.OpSub, A: 0, B: 0}, {Op: api.OpFMA, A: 3, B: 3, C: 2}}}
	meanIs(t, p, box{iv(0, 1), iv(-1, 1)}, entire)
	// A constant that a root is not defined all over, too.
	meanIs(t, api.Program{Consts: box{iv(-1, 4)}, Code: []api.Ins{{Op: api.OpConst}, {Op: api.OpSqrt}}}, nil, iv(0, 2))
}

func TestMeanByHand(t *testing.T) {
	meanIs(t, less(one(0)), box{iv(0, 2)}, one(0))
	meanIs(t, less(iv(1, 2)), box{iv(0, 2)}, iv(1, 2)) // Eval says [-1, 4]
	meanIs(t, back(), box{iv(0, 1), iv(0, 4)}, iv(0, 4))
	meanIs(t, two(api.OpMul), box{iv(0, 2), iv(0, 2)}, iv(0, 4))
	// x - x*x about its top: the slope [-1, 1], a quarter at the middle.
	top := api.Program{Vars: 1, Code: []api.Ins{{Op: api.OpSqr}, {Op: api.OpSub, A: 0, B: 1}}}
	meanIs(t, top, box{iv(0, 1)}, iv(-0.25, 0.75))
	meanIs(t, top, box{iv(signed, 1)}, iv(-0.25, 0.75))
	meanIs(t, top, box{one(0.5)}, one(0.25))
	// A step with one value, and with two.
	meanIs(t, alone(api.OpFloor, 0), box{iv(1, 1.5)}, one(1))
	meanIs(t, alone(api.OpFloor, 0), box{iv(0, 1)}, iv(0, 1))
	// The root's middle is there, some of its part is not.
	meanIs(t, alone(api.OpSqrt, 0), box{iv(-1, 9)}, iv(0, 3))
	// No variables: what there is at the middle of nothing is all.
	meanIs(t, api.Program{Consts: box{iv(1, 2)}, Code: []api.Ins{{Op: api.OpConst}}}, nil, iv(1, 2))
	meanIs(t, api.Program{Consts: box{entire}, Code: []api.Ins{{Op: api.OpConst}}}, nil, entire)
}

// Parts that have no end.
func TestMeanUnbounded(t *testing.T) {
	for _, x := range []api.Interval{entire, iv(1, inf), iv(-inf, 1), iv(-inf, -greatest), iv(greatest, inf)} {
		meanIs(t, less(one(0)), box{x}, one(0))
		meanIs(t, less(iv(-1, 3)), box{x}, iv(-1, 3))
		meanIs(t, alone(api.OpId, 0), box{x}, x)
	}
	meanIs(t, back(), box{entire, iv(0, 4)}, iv(0, 4))
	meanIs(t, back(), box{iv(0, 4), entire}, entire)
	// The middle of x is the greatest number, or the least: with 2 added it is rounded.
	meanIs(t, back(), box{iv(1, inf), iv(0, 4)}, iv(-2, inf))
	meanIs(t, back(), box{iv(-inf, 1), iv(0, 4)}, iv(-2, math.Nextafter(0x1p971, inf)))
}

func TestNewtonByHand(t *testing.T) {
	// x + y - 3: each part, with what the other one leaves.
	line := api.Program{Vars: 2, Consts: box{one(3)}, Code: []api.Ins{{Op: api.OpAdd, A: 0, B: 1}, {Op: api.OpConst}, {Op: api.OpSub, A: 2, B: 3}}}
	newtonIs(t, line, box{iv(0, 2), iv(0, 4)}, 0, iv(0, 2))
	newtonIs(t, line, box{iv(0, 2), iv(0, 4)}, 1, iv(1, 3))
	newtonIs(t, line, box{iv(0, 4), iv(0, 2)}, 0, iv(1, 3))
	newtonIs(t, line, box{one(1), iv(0, 4)}, 0, one(1))
	newtonIs(t, line, box{one(1), iv(0, 4)}, 1, one(2))
	// x + 2 y + 4 z - 14, three parts: 2 y + 4 z goes from 6 to 22 and so on.
	sum := api.Program{Vars: 3, Consts: box{one(2), one(4), one(14)}, Code: []api.Ins{{Op: api.OpConst}, {Op: api.OpConst, N: 1}, {Op: api.OpConst, N: 2},
		{Op: api.OpFMA, A: 1, B: 3, C: 0}, {Op: api.OpFMA, A: 2, B: 4, C: 6}, {Op: api.OpSub, A: 7, B: 5}}}
	b := box{iv(-8, 8), iv(1, 3), iv(1, 3)}
	newtonIs(t, sum, b, 0, iv(-4, 8))
	newtonIs(t, sum, b, 1, iv(1, 3))
	newtonIs(t, sum, box{one(0), iv(0, 6), iv(1, 3)}, 1, iv(1, 5))
	newtonIs(t, sum, box{one(0), iv(2, 4), iv(0, 8)}, 2, iv(1.5, 2.5))
}

// Where Eval's answer is Empty, or has not 0, nothing is left.
func TestNewtonWithoutZero(t *testing.T) {
	newtonIs(t, alone(api.OpSqrt, 0), box{iv(-2, -1)}, 0, empty)
	newtonIs(t, alone(api.OpSqrt, 0), box{iv(1, 2)}, 0, empty)
	newtonIs(t, alone(api.OpNeg, 0), box{iv(1, 2)}, 0, empty)
	newtonIs(t, alone(api.OpNeg, 0), box{iv(least, 2)}, 0, empty)
	newtonIs(t, alone(api.OpNeg, 0), box{iv(nan, 2)}, 0, empty)
	newtonIs(t, back(), box{iv(-1, 1), empty}, 0, empty)
	newtonIs(t, back(), box{iv(-1, 1), empty}, 1, empty)
	// Eval's answer has 0, and by the slopes there is none all the same.
	newtonIs(t, less(one(1)), box{iv(0, 2)}, 0, empty)
	newtonIs(t, against(3), box{iv(3, 5)}, 0, one(3))
}

// Where the program is not defined at the middle, the part is left as it is read.
func TestNewtonWithoutMiddle(t *testing.T) {
	newtonIs(t, alone(api.OpSqrt, 0), box{iv(-4, 1)}, 0, iv(-4, 1))
	newtonIs(t, alone(api.OpSqrt, 0), box{iv(-4, signed)}, 0, iv(-4, 0))
	newtonIs(t, alone(api.OpRecip, 0), box{iv(-1, 1)}, 0, iv(-1, 1))
	newtonIs(t, alone(api.OpRecip, 0), box{entire}, 0, entire)
	p := api.Program{Vars: 2, Code: []api.Ins{{Op: api.OpSqrt, A: 0}, {Op: api.OpMul, A: 1, B: 2}}}
	newtonIs(t, p, box{iv(-4, 1), iv(signed, 7)}, 1, iv(0, 7))
	newtonIs(t, p, box{iv(-4, 1), iv(signed, 7)}, 0, iv(-4, 1))
}

// Slopes with 0 within, and the slope [0, 0].
func TestNewtonAcrossNought(t *testing.T) {
	square := squared(api.OpSub, 4)
	newtonIs(t, square, box{iv(-3, 3)}, 0, iv(-3, 3))
	newtonIs(t, square, box{iv(-0.5, 3)}, 0, iv(1.65625, 3)) // -2.4375 at 1.25, by 6
	newtonIs(t, square, box{iv(-3, 0.5)}, 0, iv(-3, -1.65625))
	newtonIs(t, squared(api.OpSub, 0), box{iv(0, 4)}, 0, iv(0, 1.5))
	// [0, 0]: with 0 at the middle all is left, else nothing.
	newtonIs(t, alone(api.OpFloor, 0), box{iv(0, 0.5)}, 0, iv(0, 0.5))
	newtonIs(t, alone(api.OpTrunc, 0), box{iv(-0.5, signed)}, 0, iv(-0.5, 0))
	newtonIs(t, less(one(0)), box{iv(1, 3)}, 0, iv(1, 3))
	newtonIs(t, less(iv(-1, 1)), box{iv(1, 3)}, 0, iv(1, 3))
	newtonIs(t, less(iv(1, 2)), box{iv(1, 3)}, 0, empty)
	newtonIs(t, back(), box{iv(0, 1), iv(0, 4)}, 0, iv(0, 1))
	newtonIs(t, back(), box{iv(0, 1), iv(0.5, 4)}, 0, empty)
	newtonIs(t, back(), box{iv(0, 1), iv(-1, 4)}, 1, one(0))
	// A step with two values has all reals as its slope.
	newtonIs(t, alone(api.OpFloor, 0), box{iv(-1, 1)}, 0, iv(-1, 1))
}

func TestNewtonUnbounded(t *testing.T) {
	newtonIs(t, against(3), box{entire}, 0, one(3))
	newtonIs(t, against(3), box{iv(0, inf)}, 0, iv(0, 0x1p971))    // from the greatest number, less 3, rounded
	newtonIs(t, against(-3), box{iv(-inf, 0)}, 0, iv(-0x1p971, 0)) // likewise
	newtonIs(t, against(0), box{iv(-1, inf)}, 0, one(0))
	newtonIs(t, back(), box{entire, iv(-1, 4)}, 1, one(0))
	newtonIs(t, back(), box{iv(0, 1), entire}, 1, one(0))
	newtonIs(t, alone(api.OpSqr, 0), box{entire}, 0, entire)
}
