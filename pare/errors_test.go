package pare_test

import (
	"math"
	"testing"

	"verge/api"
	"verge/pare"
)

// P19.1: the errors, and which comes first.

func refused(t *testing.T, g api.Goal, b box, e api.Errno) {
	t.Helper()
	if y, err := pare.Contract(g, b); err != e || len(y) != 0 {
		t.Errorf("Contract(%s; %v) = %v, %d; want %d", shown(g), b, y, err, e)
	}
}

func refusedByFix(t *testing.T, goals []api.Goal, b box, rounds int, e api.Errno) {
	t.Helper()
	if y, made, err := pare.Fix(goals, b, rounds); err != e || len(y) != 0 || made != 0 {
		t.Errorf("Fix(%s; %v, %d) = %v, %d, %d; want %d", shownAll(goals), b, rounds, y, made, err, e)
	}
}

// bad is a goal that is refused.
type bad struct {
	g api.Goal
	e api.Errno
}

// bads are goals over two variables of whose programs something is wrong.
func bads() []bad {
	turned := func(turn func(p *api.Program)) api.Goal {
		g := goal(2, box{one(2)}, entire, api.Ins{Op: api.OpSqr}, api.Ins{Op: api.OpConst}, api.Ins{Op: api.OpSub, A: 2, B: 3})
		turn(&g.P)
		return g
	}
	return []bad{
		{turned(func(p *api.Program) { p.Vars = -1 }), api.ErrVars},
		{turned(func(p *api.Program) { p.Vars = api.MaxVars + 1 }), api.ErrVars},
		{turned(func(p *api.Program) { p.Consts[0] = iv(2, 1) }), api.ErrConst},
		{turned(func(p *api.Program) { p.Consts[0] = iv(signed, 1) }), api.ErrConst},
		{turned(func(p *api.Program) { p.Consts = make(box, api.MaxConsts+1) }), api.ErrConst},
		{turned(func(p *api.Program) { p.Code = nil }), api.ErrCode},
		{turned(func(p *api.Program) { p.Code = make([]api.Ins, api.MaxCode+1) }), api.ErrCode},
		{turned(func(p *api.Program) { p.Code[0].Op = 0 }), api.ErrOp},
		{turned(func(p *api.Program) { p.Code[2].Op = api.OpRoundAway + 1 }), api.ErrOp},
		{turned(func(p *api.Program) { p.Code[2].Op = math.MinInt }), api.ErrOp},
		{turned(func(p *api.Program) { p.Code[2].B = 4 }), api.ErrOperand},
		{turned(func(p *api.Program) { p.Code[2].A = -1 }), api.ErrOperand},
		{turned(func(p *api.Program) { p.Code[2].A = math.MaxInt }), api.ErrOperand},
		{turned(func(p *api.Program) { p.Code[0].B = 1 }), api.ErrOperand},
		{turned(func(p *api.Program) { p.Code[1].N = 1 }), api.ErrOperand},
		{turned(func(p *api.Program) { p.Code[0] = api.Ins{Op: api.OpPown, N: api.MaxPow + 1} }), api.ErrPower},
		{turned(func(p *api.Program) { p.Code[0] = api.Ins{Op: api.OpPown, N: -api.MaxPow - 1} }), api.ErrPower},
		{api.Goal{}, api.ErrCode},
	}
}

func boxesOf(x api.Interval, lengths ...int) []box {
	var out []box
	for _, n := range lengths {
		out = append(out, list(n, func() api.Interval { return x }))
	}
	return out
}

// A program that expr refuses, with whatever box and C.
func TestProgramsRefused(t *testing.T) {
	for _, row := range bads() {
		for _, c := range []api.Interval{entire, one(1), empty, iv(nan, 1)} {
			row.g.C = c
			for _, x := range []api.Interval{iv(1, 2), empty, iv(2, nan)} {
				for _, b := range boxesOf(x, 0, 1, 2, 3, 40) {
					refused(t, row.g, b, row.e)
				}
			}
		}
	}
}

// A box of the wrong length, whatever its parts and C are.
func TestBoxesRefused(t *testing.T) {
	for _, c := range []api.Interval{entire, empty, iv(nan, 1)} {
		for vars, g := range []api.Goal{goal(0, box{one(1)}, c, api.Ins{Op: api.OpConst}), alone(api.OpSqrt, 0, c), two(api.OpMul, c), goal(3, nil, c, api.Ins{Op: api.OpId})} {
			for _, x := range []api.Interval{iv(1, 2), empty, iv(nan, 1), iv(-2, -1)} {
				for n, b := range boxesOf(x, 0, 1, 2, 3, 4, 5) {
					if n == vars {
						continue
					}
					refused(t, g, b, api.ErrBox)
					for _, rounds := range []int{0, 1, api.MaxRounds} {
						refusedByFix(t, []api.Goal{g}, b, rounds, api.ErrBox)
					}
				}
			}
		}
	}
}

// strays are numbers of rounds that are refused.
func strays() []int {
	return []int{-1, -2, math.MinInt, math.MinInt + 1, api.MaxRounds + 1, 2 * api.MaxRounds, 1 << 16, 1 << 30, math.MaxInt - 1, math.MaxInt}
}

// goalLists are such as may be, are too short, too long, or have something wrong in them.
func goalLists() [][]api.Goal {
	fine := two(api.OpAdd, one(5))
	out := [][]api.Goal{nil, {}, {fine}, make([]api.Goal, api.MaxGoals+1), make([]api.Goal, 100)}
	for _, row := range bads() {
		out = append(out, []api.Goal{row.g}, []api.Goal{fine, row.g})
	}
	return out
}

// So many rounds, whatever else is wrong.
func TestRoundsRefused(t *testing.T) {
	for _, rounds := range strays() {
		for _, goals := range goalLists() {
			for _, b := range append(boxesOf(iv(0, 10), 0, 1, 2, 3), box{empty, one(1)}) {
				refusedByFix(t, goals, b, rounds, api.ErrArg)
			}
		}
	}
}

// So many goals, whatever they are, and whatever the box is.
func TestGoalsRefused(t *testing.T) {
	fine := two(api.OpAdd, one(5))
	many := func(n int) []api.Goal { return list(n, func() api.Goal { return fine }) }
	for _, goals := range [][]api.Goal{nil, {}, many(api.MaxGoals + 1), many(1000), make([]api.Goal, api.MaxGoals+1), append(many(api.MaxGoals), api.Goal{})} {
		for _, b := range append(boxesOf(iv(0, 10), 0, 1, 2, 3), box{empty, one(1)}) {
			for _, rounds := range []int{0, 1, api.MaxRounds} {
				refusedByFix(t, goals, b, rounds, api.ErrGoals)
			}
		}
	}
	for _, n := range []int{1, api.MaxGoals - 1, api.MaxGoals} {
		fixes(t, many(n), box{iv(0, 4), iv(3, 9)}, 1, 1, iv(0, 2), iv(3, 5))
		fixes(t, many(n), box{iv(0, 4), iv(3, 9)}, api.MaxRounds, 2, iv(0, 2), iv(3, 5))
	}
}

// Of several goals that are refused the first one's error is told, be it the program's or the box's; a
// part that is Empty, goals that leave nothing, and rounds that are not made play no part in it.
func TestFirstGoalRefused(t *testing.T) {
	fine, narrow := two(api.OpAdd, entire), alone(api.OpId, 0, entire)
	none := two(api.OpAdd, empty)
	for _, b := range []box{{iv(1, 2), iv(3, 4)}, {empty, iv(3, 4)}, {iv(1, 2), iv(nan, 4)}} {
		for _, rounds := range []int{0, 1, 2, api.MaxRounds} {
			for _, row := range bads() {
				for _, goals := range [][]api.Goal{{row.g}, {fine, row.g}, {none, row.g}, {fine, fine, row.g, narrow}, {row.g, narrow}, {row.g, fine}} {
					refusedByFix(t, goals, b, rounds, row.e)
				}
				for _, goals := range [][]api.Goal{{narrow, row.g}, {fine, narrow, row.g}, {none, narrow, fine, row.g}} {
					refusedByFix(t, goals, b, rounds, api.ErrBox)
				}
				for _, other := range bads() {
					refusedByFix(t, []api.Goal{fine, row.g, other.g}, b, rounds, row.e)
				}
			}
			last := append(list(api.MaxGoals-1, func() api.Goal { return fine }), narrow)
			refusedByFix(t, last, b, rounds, api.ErrBox)
		}
	}
	// What refuses this box might take another one.
	refusedByFix(t, []api.Goal{fine, narrow}, box{iv(1, 2)}, 1, api.ErrBox)
	refusedByFix(t, []api.Goal{{}, fine}, box{iv(1, 2)}, 1, api.ErrCode)
	refusedByFix(t, []api.Goal{fine, {}}, box{iv(1, 2)}, 1, api.ErrBox)
}
