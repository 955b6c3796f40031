package slope_test

import (
	"testing"

	"verge/api"
	"verge/slope"
)

// The rows of the chapter's examples, and the one of the document's page that slopes play a part in.

// squared tells x*x by OpSqr with a constant added or taken away.
func squared(op int, c float64) api.Program {
	return api.Program{Vars: 1, Consts: box{one(c)}, Code: []api.Ins{{Op: api.OpSqr}, {Op: api.OpConst}, {Op: op, A: 1, B: 2}}}
}

func TestExamplesOfSlopes(t *testing.T) {
	slopesAre(t, alone(api.OpSqr, 0), box{iv(1, 2)}, iv(1, 4), iv(2, 4))
	slopesAre(t, alone(api.OpMul, 0), box{iv(-1, 2)}, iv(-2, 4), iv(-2, 4))
	slopesAre(t, alone(api.OpRecip, 0), box{iv(1, 2)}, iv(0.5, 1), iv(-1, -0.25))
	slopesAre(t, alone(api.OpRecip, 0), box{iv(0, 1)}, iv(1, inf), iv(-inf, -1))
	slopesAre(t, alone(api.OpSqrt, 0), box{iv(0, 4)}, iv(0, 2), iv(0.25, inf))
	slopesAre(t, alone(api.OpSqrt, 0), box{iv(0, 0)}, iv(0, 0), iv(0, 0))
	slopesAre(t, alone(api.OpSqrt, 0), box{iv(-2, -1)}, empty, empty)
	slopesAre(t, alone(api.OpFloor, 0), box{iv(1, 1.5)}, iv(1, 1), iv(0, 0))
	slopesAre(t, alone(api.OpFloor, 0), box{iv(0, 1)}, iv(0, 1), entire)
	slopesAre(t, alone(api.OpAbs, 0), box{iv(-1, 3)}, iv(0, 3), iv(-1, 1))
	slopesAre(t, alone(api.OpPown, -2), box{iv(1, 2)}, iv(0.25, 1), iv(-4, -0.125))
	sum := api.Program{Vars: 2, Code: []api.Ins{{Op: api.OpMul, A: 1, B: 1}, {Op: api.OpAdd, A: 0, B: 2}}}
	slopesAre(t, sum, box{iv(0, 1), iv(2, 3)}, iv(4, 10), iv(1, 1), iv(4, 6))
}

func TestExamplesOfMeanValue(t *testing.T) {
	p := api.Program{Vars: 1, Code: []api.Ins{{Op: api.OpSqr}, {Op: api.OpSub, A: 0, B: 1}}}
	meanIs(t, p, box{iv(0.25, 0.75)}, iv(0.125, 0.375))
	slopesAre(t, p, box{iv(0.25, 0.75)}, iv(-0.3125, 0.6875), iv(-0.5, 0.5))
	meanIs(t, alone(api.OpRecip, 0), box{iv(-1, 1)}, entire)
}

func TestExamplesOfNewton(t *testing.T) {
	newtonIs(t, squared(api.OpSub, 2), box{iv(1, 2)}, 0, iv(1.375, 1.4375))
	newtonIs(t, squared(api.OpAdd, 1), box{iv(-1, 1)}, 0, empty)
}

func TestExamplesOfErrors(t *testing.T) {
	if y, s, e := slope.Slopes(alone(api.OpSqr, 0), box{iv(1, 2), iv(1, 2)}); e != api.ErrBox || y != iv(0, 0) || len(s) != 0 {
		t.Errorf("Slopes with a box of two parts for one variable = %v, %v, %d", y, s, e)
	}
	if y, e := slope.Newton(alone(api.OpSqr, 0), box{iv(1, 2)}, 1); e != api.ErrArg || y != iv(0, 0) {
		t.Errorf("Newton of the part 1 of one variable = %v, %d", y, e)
	}
}

// The eighth one of the whole.
func TestExampleOfTheWhole(t *testing.T) {
	p := alone(api.OpMul, 0)
	slopesAre(t, p, box{iv(1, 3)}, iv(1, 9), iv(2, 6))
	meanIs(t, p, box{iv(1, 3)}, iv(1, 9))
}
