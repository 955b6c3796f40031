package sieve_test

import (
	"math"
	"testing"

	"verge/api"
	"verge/sieve"
)

// P20.1: the errors, and which comes first.

func refused(t *testing.T, goals []api.Goal, b box, l api.Limits, e api.Errno) {
	t.Helper()
	if p, err := sieve.Pave(goals, b, l); err != e || len(p.Inner)+len(p.Edge)+len(p.Left)+p.Boxes+p.Rounds != 0 {
		t.Errorf("Pave(%s; %v, %v) = %s, %d; want %d", shown(goals), b, l, shownPaving(p), err, e)
	}
	if walk, err := sieve.Walk(goals, b, l); err != e || walk != nil {
		t.Errorf("Walk(%s; %v, %v) = a function: %t, %d; want %d", shown(goals), b, l, walk != nil, err, e)
	}
}

func fine() api.Limits { return api.Limits{Width: 0.5, Boxes: 9, Rounds: 9, Workers: 2} }

// strays are limits that are refused.
func strays() []api.Limits {
	var out []api.Limits
	turned := func(turn func(l *api.Limits)) {
		l := fine()
		turn(&l)
		out = append(out, l)
	}
	for _, width := range []float64{nan, math.Float64frombits(0xfff0000000000001), math.Float64frombits(0x7ff0000000000001), -1, -least, -0x1p-1022, -greatest, -inf} {
		turned(func(l *api.Limits) { l.Width = width })
	}
	ends := []int{-1, -2, math.MinInt, math.MinInt + 1, 1 << 30, math.MaxInt - 1, math.MaxInt}
	for _, n := range append(ends, api.MaxBoxes+1, 2*api.MaxBoxes) {
		turned(func(l *api.Limits) { l.Boxes = n })
	}
	for _, n := range append(ends, api.MaxRounds+1, api.MaxBoxes) {
		turned(func(l *api.Limits) { l.Rounds = n })
	}
	for _, n := range append(ends, 0, api.MaxWorkers+1, api.MaxRounds) {
		turned(func(l *api.Limits) { l.Workers = n })
	}
	return append(out, api.Limits{}, api.Limits{Width: nan, Boxes: -1, Rounds: -1, Workers: -1})
}

// bad is a goal that is refused.
type bad struct {
	g api.Goal
	e api.Errno
}

// bads are goals over two variables of whose programs something is wrong.
func bads() []bad {
	turned := func(turn func(p *api.Program)) api.Goal {
		g := goal(2, box{one(2)}, entire, api.Ins{Op: api.OpSqr}, api.Ins{Op: api.OpConst}, api.Ins{Op: api.OpSub, A: 2, B: 3})
		turn(&g.P)
		return g
	}
	return []bad{
		{turned(func(p *api.Program) { p.Vars = -1 }), api.ErrVars},
		{turned(func(p *api.Program) { p.Vars = api.MaxVars + 1 }), api.ErrVars},
		{turned(func(p *api.Program) { p.Consts[0] = iv(2, 1) }), api.ErrConst},
		{turned(func(p *api.Program) { p.Consts[0] = iv(signed, 1) }), api.ErrConst},
		{turned(func(p *api.Program) { p.Consts = make(box, api.MaxConsts+1) }), api.ErrConst},
		{turned(func(p *api.Program) { p.Code = nil }), api.ErrCode},
		{turned(func(p *api.Program) { p.Code = make([]api.Ins, api.MaxCode+1) }), api.ErrCode},
		{turned(func(p *api.Program) { p.Code[0].Op = 0 }), api.ErrOp},
		{turned(func(p *api.Program) { p.Code[2].Op = api.OpRoundAway + 1 }), api.ErrOp},
		{turned(func(p *api.Program) { p.Code[2].Op = math.MinInt }), api.ErrOp},
		{turned(func(p *api.Program) { p.Code[2].B = 4 }), api.ErrOperand},
		{turned(func(p *api.Program) { p.Code[2].A = math.MaxInt }), api.ErrOperand},
		{turned(func(p *api.Program) { p.Code[1].N = 1 }), api.ErrOperand},
		{turned(func(p *api.Program) { p.Code[0] = api.Ins{Op: api.OpPown, N: api.MaxPow + 1} }), api.ErrPower},
		{api.Goal{}, api.ErrCode},
	}
}

// boxes are such as two variables have, and such as they don't.
func boxes() []box {
	return []box{nil, {iv(1, 2)}, {empty}, {iv(1, 2), iv(3, 4)}, {empty, iv(3, 4)}, {iv(1, 2), iv(nan, 4)}, {iv(1, 2), iv(3, 4), iv(5, 6)}, make(box, 40)}
}

// So many goals, whatever they are, and whatever the box and the limits are.
func TestGoalsRefused(t *testing.T) {
	many := func(n int) []api.Goal { return list(n, func() api.Goal { return two(api.OpAdd, one(5)) }) }
	for _, goals := range [][]api.Goal{nil, {}, many(api.MaxGoals + 1), many(1000), make([]api.Goal, api.MaxGoals+1), append(many(api.MaxGoals), api.Goal{})} {
		for _, b := range boxes() {
			for _, l := range append(strays(), fine()) {
				refused(t, goals, b, l, api.ErrGoals)
			}
		}
	}
	for _, n := range []int{1, api.MaxGoals - 1, api.MaxGoals} {
		l := fine()
		l.Width = inf
		answers(t, many(n), box{iv(0, 4), iv(3, 9)}, l, api.Paving{Edge: []box{{iv(0, 2), iv(3, 5)}}, Boxes: 1, Rounds: 1})
	}
}

// Of the first goal that is refused its error, whatever the box and the limits are: also behind a goal
// that has not as many variables as the box has parts.
func TestProgramsRefused(t *testing.T) {
	plain, narrow, none := two(api.OpAdd, entire), inPart(1, 0, entire), two(api.OpAdd, empty)
	last := append(list(api.MaxGoals-1, func() api.Goal { return plain }), api.Goal{})
	for _, b := range boxes() {
		for _, l := range []api.Limits{fine(), {}, {Width: nan, Boxes: -1, Rounds: -1}, {Workers: 1}} {
			for _, row := range bads() {
				for _, goals := range [][]api.Goal{{row.g}, {plain, row.g}, {none, row.g}, {narrow, row.g}, {plain, narrow, plain, row.g}, {row.g, narrow}, {row.g, plain}} {
					refused(t, goals, b, l, row.e)
				}
				for _, other := range bads() {
					refused(t, []api.Goal{plain, row.g, other.g}, b, l, row.e)
				}
			}
			refused(t, last, b, l, api.ErrCode)
		}
	}
}

// A box of the wrong length, whatever its parts, the goals' intervals and the limits are.
func TestBoxesRefused(t *testing.T) {
	for _, c := range []api.Interval{entire, empty, iv(nan, 1)} {
		for vars := range 4 {
			g := goal(vars, box{one(1)}, c, api.Ins{Op: api.OpConst})
			for _, b := range boxes() {
				if len(b) == vars {
					continue
				}
				for _, l := range append(strays(), fine()) {
					refused(t, []api.Goal{g}, b, l, api.ErrBox)
				}
			}
		}
	}
	// The first goal's, the last one's, one's in between.
	plain, narrow, wide := two(api.OpAdd, entire), inPart(1, 0, entire), inPart(3, 0, entire)
	last := append(list(api.MaxGoals-1, func() api.Goal { return plain }), narrow)
	for _, goals := range [][]api.Goal{{narrow}, {plain, narrow}, {narrow, plain}, {plain, wide, plain}, {wide, narrow}, last} {
		for _, b := range []box{{iv(1, 2), iv(3, 4)}, {empty, iv(3, 4)}} {
			for _, l := range append(strays(), fine()) {
				refused(t, goals, b, l, api.ErrBox)
			}
		}
	}
	b := list(api.MaxVars, func() api.Interval { return iv(1, 2) })
	refused(t, []api.Goal{sure(api.MaxVars)}, b[:api.MaxVars-1], fine(), api.ErrBox)
	refused(t, []api.Goal{sure(api.MaxVars)}, append(b, iv(1, 2)), fine(), api.ErrBox)
	answers(t, []api.Goal{sure(api.MaxVars)}, b, fine(), api.Paving{Inner: []box{b}, Boxes: 1, Rounds: 1})
}

// Limits that are refused, whatever the box holds, and also where nothing is to be looked at.
func TestLimitsRefused(t *testing.T) {
	for _, l := range strays() {
		for _, b := range []box{{iv(1, 2), iv(3, 4)}, {empty, iv(3, 4)}, {iv(1, 2), iv(nan, 4)}} {
			for _, g := range []api.Goal{two(api.OpAdd, entire), two(api.OpAdd, empty), unsure(2)} {
				refused(t, []api.Goal{g}, b, l, api.ErrLimit)
			}
		}
		refused(t, []api.Goal{sure(0)}, nil, l, api.ErrLimit)
		// The others at 0.
		for _, b := range []box{{iv(1, 2), iv(3, 4)}, {empty, empty}} {
			if l.Workers != 2 {
				continue
			}
			if l.Boxes == 9 {
				l.Boxes = 0
			}
			if l.Rounds == 9 {
				l.Rounds = 0
			}
			refused(t, []api.Goal{unsure(2)}, b, l, api.ErrLimit)
		}
	}
}

// Limits that are taken, each at its ends.
func TestLimitsTaken(t *testing.T) {
	goals := []api.Goal{unsure(1)}
	b := box{iv(0, 1)}
	halves := []box{{iv(0, 0.5)}, {iv(0.5, 1)}}
	for _, workers := range []int{1, 2, api.MaxWorkers - 1, api.MaxWorkers} {
		for _, width := range []float64{0.5, 0.75, 0x1.fffffffffffffp-1} {
			answers(t, goals, b, api.Limits{Width: width, Boxes: api.MaxBoxes, Rounds: api.MaxRounds, Workers: workers}, api.Paving{Edge: halves, Boxes: 3, Rounds: 2})
		}
		for _, width := range []float64{1, 2, greatest, inf} {
			answers(t, goals, b, api.Limits{Width: width, Boxes: api.MaxBoxes, Rounds: api.MaxRounds, Workers: workers}, api.Paving{Edge: []box{b}, Boxes: 1, Rounds: 1})
		}
		for _, width := range []float64{0, signed, least, 0.5, inf} {
			answers(t, goals, b, api.Limits{Width: width, Workers: workers}, api.Paving{Left: []box{b}})
			answers(t, goals, b, api.Limits{Width: width, Boxes: api.MaxBoxes, Workers: workers}, api.Paving{Left: []box{b}})
			answers(t, goals, b, api.Limits{Width: width, Rounds: api.MaxRounds, Workers: workers}, api.Paving{Left: []box{b}})
		}
	}
	// Down to neighbours, where there is nothing to be cut any more.
	tiny := box{iv(1, 1+0x1p-50)}
	want := api.Paving{Boxes: 7, Rounds: 3}
	for i := range 4 {
		want.Edge = append(want.Edge, box{iv(1+float64(i)*0x1p-52, 1+float64(i+1)*0x1p-52)})
	}
	for _, width := range []float64{0, signed, least, 0x1p-53} {
		answers(t, goals, tiny, api.Limits{Width: width, Boxes: api.MaxBoxes, Rounds: api.MaxRounds, Workers: 3}, want)
	}
}
