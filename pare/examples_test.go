package pare_test

import (
	"testing"

	"verge/api"
	"verge/pare"
)

// The rows of the chapter's examples, and those of the document's page that play a part here.

func TestExamplesOfContract(t *testing.T) {
	leaves(t, two(api.OpAdd, one(5)), box{iv(0, 4), iv(3, 9)}, iv(0, 2), iv(3, 5))
	leaves(t, two(api.OpMul, one(4)), box{iv(1, 2), iv(0, 8)}, iv(1, 2), iv(2, 4))
	leaves(t, alone(api.OpSqr, 0, iv(4, 9)), box{iv(0, 10)}, iv(2, 3))
	leaves(t, alone(api.OpSqr, 0, iv(4, 9)), box{iv(-10, 10)}, iv(-3, 3))
	leaves(t, alone(api.OpMul, 0, iv(4, 9)), box{iv(0, 10)}, iv(0x1.9999999999999p-2, 10))
	leaves(t, alone(api.OpSub, 0, one(1)), box{iv(0, 10)}, iv(1, 9))
	leaves(t, alone(api.OpSqrt, 0, iv(-1, 2)), box{iv(-5, 9)}, iv(0, 4))
	leaves(t, two(api.OpAdd, iv(20, 30)), box{iv(0, 4), iv(3, 9)}, empty, empty)
	unused := goal(2, nil, entire, api.Ins{Op: api.OpSqrt, A: 0}, api.Ins{Op: api.OpId, A: 1})
	leaves(t, unused, box{iv(-5, 9), iv(1, 2)}, iv(0, 9), iv(1, 2))
	leaves(t, two(api.OpAdd, one(5)), box{empty, iv(3, 9)}, empty, empty)
	if y, e := pare.Contract(two(api.OpAdd, one(5)), box{iv(0, 4)}); e != api.ErrBox || len(y) != 0 {
		t.Errorf("Contract of a box with one part for two variables = %v, %d", y, e)
	}
}

func TestExamplesOfFix(t *testing.T) {
	goals := []api.Goal{two(api.OpAdd, one(5)), two(api.OpSub, one(1))}
	b := box{iv(0, 10), iv(0, 10)}
	fixes(t, goals, b, 0, 0, iv(0, 10), iv(0, 10))
	fixes(t, goals, b, 1, 1, iv(1, 5), iv(0, 4))
	fixes(t, goals, b, 2, 2, iv(1, 5), iv(0, 4))
	fixes(t, goals, b, 3, 2, iv(1, 5), iv(0, 4))
	refusedByFix(t, goals, b, 4097, api.ErrArg)
	refusedByFix(t, nil, b, 3, api.ErrGoals)
}

// The sixth one of the whole.
func TestExampleOfTheWhole(t *testing.T) {
	fixes(t, []api.Goal{two(api.OpAdd, one(5))}, box{iv(0, 4), iv(3, 9)}, 9, 2, iv(0, 2), iv(3, 5))
}
