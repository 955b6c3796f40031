package slope_test

import (
	"math"
	"testing"

	"verge/api"
	"verge/slope"
)

// The chapter's errors, and which comes first.

// refused asks all three calls; the first two know nothing of a part.
func refused(t *testing.T, p api.Program, b box, part int, e api.Errno) {
	t.Helper()
	if y, s, err := slope.Slopes(p, b); err != e || y != iv(0, 0) || len(s) != 0 {
		t.Errorf("Slopes(%s; %v) = %v, %v, %d; want %d", shown(p), b, y, s, err, e)
	}
	if y, err := slope.MeanValue(p, b); err != e || y != iv(0, 0) {
		t.Errorf("MeanValue(%s; %v) = %v, %d; want %d", shown(p), b, y, err, e)
	}
	newtonRefused(t, p, b, part, e)
}

func newtonRefused(t *testing.T, p api.Program, b box, part int, e api.Errno) {
	t.Helper()
	if y, err := slope.Newton(p, b, part); err != e || y != iv(0, 0) {
		t.Errorf("Newton(%s; %v, %d) = %v, %d; want %d", shown(p), b, part, y, err, e)
	}
}

func strays() []int { return []int{-1, -2, math.MinInt, math.MaxInt} }

// A program that expr refuses, with whatever box and part.
func TestProgramsRefused(t *testing.T) {
	turned := func(turn func(p *api.Program)) api.Program {
		p := squared(api.OpSub, 2)
		turn(&p)
		return p
	}
	for _, row := range []struct {
		p api.Program
		e api.Errno
	}{
		{turned(func(p *api.Program) { p.Vars = -1 }), api.ErrVars},
		{turned(func(p *api.Program) { p.Vars = api.MaxVars + 1 }), api.ErrVars},
		{turned(func(p *api.Program) { p.Consts[0] = iv(2, 1) }), api.ErrConst},
		{turned(func(p *api.Program) { p.Consts[0] = iv(signed, 1) }), api.ErrConst},
		{turned(func(p *api.Program) { p.Consts = make(box, api.MaxConsts+1) }), api.ErrConst},
		{turned(func(p *api.Program) { p.Code = nil }), api.ErrCode},
		{turned(func(p *api.Program) { p.Code = make([]api.Ins, api.MaxCode+1) }), api.ErrCode},
		{turned(func(p *api.Program) { p.Code[0].Op = 0 }), api.ErrOp},
		{turned(func(p *api.Program) { p.Code[2].Op = api.OpRoundAway + 1 }), api.ErrOp},
		{turned(func(p *api.Program) { p.Code[2].B = 3 }), api.ErrOperand},
		{turned(func(p *api.Program) { p.Code[0].B = 1 }), api.ErrOperand},
		{turned(func(p *api.Program) { p.Code[1].N = 1 }), api.ErrOperand},
		{turned(func(p *api.Program) { p.Code[0] = api.Ins{Op: api.OpPown, N: api.MaxPow + 1} }), api.ErrPower},
		{turned(func(p *api.Program) { p.Code[0] = api.Ins{Op: api.OpPown, N: -api.MaxPow - 1} }), api.ErrPower},
		{api.Program{}, api.ErrCode},
	} {
		for _, b := range []box{nil, {iv(1, 2)}, {empty}, {iv(1, 2), iv(1, 2)}, make(box, 40)} {
			for _, part := range append(strays(), 0, 1, 2) {
				refused(t, row.p, b, part, row.e)
			}
		}
	}
}

// A box of the wrong length, with whatever part, and whatever its parts are.
func TestBoxesRefused(t *testing.T) {
	for vars, p := range []api.Program{{Consts: box{one(1)}, Code: []api.Ins{{Op: api.OpConst}}}, squared(api.OpSub, 2), back(), {Vars: 3, Code: []api.Ins{{Op: api.OpId}}}} {
		for n := range 6 {
			if n == vars {
				continue
			}
			for _, x := range []api.Interval{iv(1, 2), empty, iv(nan, 1)} {
				b := make(box, n)
				for i := range b {
					b[i] = x
				}
				for _, part := range append(strays(), 0, vars, n) {
					refused(t, p, b, part, api.ErrBox)
				}
			}
		}
	}
}

// A part that is none, whatever the box says.
func TestPartsRefused(t *testing.T) {
	for _, part := range append(strays(), 1, 2, 1<<16, math.MaxInt-1, math.MinInt+1) {
		for _, x := range []api.Interval{iv(1, 2), empty, iv(nan, 1), iv(-1, 1), entire} {
			newtonRefused(t, squared(api.OpSub, 2), box{x}, part, api.ErrArg)
			newtonRefused(t, squared(api.OpAdd, 2), box{x}, part, api.ErrArg)
			newtonRefused(t, alone(api.OpRecip, 0), box{x}, part, api.ErrArg)
		}
	}
	fixed := api.Program{Consts: box{one(0)}, Code: []api.Ins{{Op: api.OpConst}}}
	for _, part := range append(strays(), 0, 1) {
		newtonRefused(t, fixed, nil, part, api.ErrArg)
		newtonRefused(t, fixed, box{}, part, api.ErrArg)
	}
	many := api.Program{Vars: api.MaxVars, Code: []api.Ins{{Op: api.OpId, A: api.MaxVars - 1}}}
	b := make(box, api.MaxVars)
	newtonRefused(t, many, b, api.MaxVars, api.ErrArg)
	newtonIs(t, many, b, api.MaxVars-1, one(0))
	newtonIs(t, back(), box{iv(0, 1), iv(0, 1)}, 1, one(0))
	newtonRefused(t, back(), box{iv(0, 1), iv(0, 1)}, 2, api.ErrArg)
}
