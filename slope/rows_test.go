package slope_test

import (
	"slices"
	"testing"

	"verge/api"
	"verge/expr"
)

// P18.1: the rows of both tables, worked out by hand, and by the words.

func TestRowsOfOneOperand(t *testing.T) {
	for _, row := range []struct {
		op          int
		x, y, slope api.Interval
	}{
		{api.OpId, iv(1, 2), iv(1, 2), one(1)},
		{api.OpId, entire, entire, one(1)},
		{api.OpId, iv(signed, 2), iv(0, 2), one(1)},
		{api.OpNeg, iv(1, 2), iv(-2, -1), one(-1)},
		{api.OpNeg, iv(-1, signed), iv(0, 1), one(-1)},
		{api.OpSqr, iv(-1, 2), iv(0, 4), iv(-2, 4)},
		{api.OpSqr, one(3), one(9), one(6)},
		{api.OpSqr, one(0), one(0), one(0)},
		{api.OpSqr, iv(signed, signed), one(0), one(0)},
		{api.OpSqr, entire, iv(0, inf), entire},
		{api.OpSqr, one(0x1p1023), iv(greatest, inf), iv(greatest, inf)},
		{api.OpRecip, iv(-2, -1), iv(-1, -0.5), iv(-1, -0.25)},
		{api.OpRecip, iv(-1, 1), entire, entire},
		{api.OpRecip, iv(-2, 0), iv(-inf, -0.5), iv(-inf, -0.25)},
		{api.OpRecip, iv(2, inf), iv(0, 0.5), iv(-0.25, 0)},
		{api.OpRecip, one(0x1p-600), one(0x1p600), iv(-inf, -greatest)},
		{api.OpRecip, one(0), empty, empty},
		{api.OpRecip, iv(signed, 1), iv(1, inf), iv(-inf, -1)},
		{api.OpSqrt, iv(1, 4), iv(1, 2), iv(0.25, 0.5)},
		{api.OpSqrt, iv(-4, 0), one(0), one(0)},
		{api.OpSqrt, iv(-4, signed), one(0), one(0)},
		{api.OpSqrt, iv(-1, 4), iv(0, 2), iv(0.25, inf)},
		{api.OpSqrt, iv(4, inf), iv(2, inf), iv(0, 0.25)},
		{api.OpSqrt, entire, iv(0, inf), iv(0, inf)},
		{api.OpSqrt, one(0x1p-1074), one(0x1p-537), one(0x1p536)},
		{api.OpSqrt, iv(-2, -1), empty, empty},
		{api.OpAbs, iv(1, 2), iv(1, 2), one(1)},
		{api.OpAbs, iv(0, 2), iv(0, 2), one(1)},
		{api.OpAbs, iv(signed, 2), iv(0, 2), one(1)},
		{api.OpAbs, one(0), one(0), one(1)},
		{api.OpAbs, iv(signed, signed), one(0), one(1)},
		{api.OpAbs, iv(-2, 0), iv(0, 2), one(-1)},
		{api.OpAbs, iv(-2, signed), iv(0, 2), one(-1)},
		{api.OpAbs, iv(-2, -1), iv(1, 2), one(-1)},
		{api.OpAbs, iv(-least, 1), iv(0, 1), iv(-1, 1)},
		{api.OpAbs, iv(-1, least), iv(0, 1), iv(-1, 1)},
		{api.OpAbs, iv(-inf, 0), iv(0, inf), one(-1)},
		{api.OpAbs, entire, iv(0, inf), iv(-1, 1)},
	} {
		slopesAre(t, alone(row.op, 0), box{row.x}, row.y, row.slope)
	}
}

func TestRowsOfSteps(t *testing.T) {
	for _, row := range []struct {
		op   int
		x, y api.Interval
	}{
		{api.OpSign, iv(1, 2), one(1)}, {api.OpSign, iv(0, 1), iv(0, 1)}, {api.OpSign, one(0), one(0)}, {api.OpSign, iv(-1, 1), iv(-1, 1)}, {api.OpSign, iv(-inf, -1), one(-1)},
		{api.OpFloor, iv(1, 1.5), one(1)}, {api.OpFloor, iv(1, 2), iv(1, 2)}, {api.OpFloor, entire, entire}, {api.OpFloor, one(0.5), one(0)}, {api.OpFloor, iv(-0.5, signed), iv(-1, 0)},
		{api.OpCeil, iv(0.5, 1), one(1)}, {api.OpCeil, iv(0, 1), iv(0, 1)}, {api.OpCeil, iv(1, inf), iv(1, inf)}, {api.OpCeil, iv(-0.5, signed), one(0)},
		{api.OpTrunc, iv(-0.5, 0.5), one(0)}, {api.OpTrunc, iv(0.5, 1), iv(0, 1)}, {api.OpTrunc, iv(-1, -0.5), iv(-1, 0)},
		{api.OpRoundEven, iv(-0.5, 0.5), one(0)}, {api.OpRoundEven, iv(0.5, 1), iv(0, 1)}, {api.OpRoundEven, iv(1.5, 2.5), one(2)},
		{api.OpRoundAway, iv(0.5, 1), one(1)}, {api.OpRoundAway, iv(0, 0.5), iv(0, 1)}, {api.OpRoundAway, iv(-0.5, 0.5), iv(-1, 1)},
	} {
		slope := entire
		if row.y.Lo == row.y.Hi {
			slope = one(0)
		}
		slopesAre(t, alone(row.op, 0), box{row.x}, row.y, slope)
		// A variable on which the step does not hang.
		slopesAre(t, api.Program{Vars: 2, Code: []api.Ins{{Op: row.op, A: 1}}}, box{iv(3, 4), row.x}, row.y, one(0), slope)
	}
}

func TestRowsOfPowers(t *testing.T) {
	for _, row := range []struct {
		n           int
		x, y, slope api.Interval
	}{
		{0, iv(-1, 2), one(1), one(0)},
		{0, entire, one(1), one(0)},
		{0, one(0), one(1), one(0)},
		{1, iv(2, 3), iv(2, 3), one(1)},
		{1, entire, entire, one(1)},
		{1, one(0), one(0), one(1)},
		{2, iv(-1, 2), iv(0, 4), iv(-2, 4)},
		{3, iv(-1, 2), iv(-1, 8), iv(0, 12)},
		{3, iv(-3, -2), iv(-27, -8), iv(12, 27)},
		{4, iv(-1, 2), iv(0, 16), iv(-4, 32)},
		{-1, iv(1, 2), iv(0.5, 1), iv(-1, -0.25)},
		{-1, iv(0, 1), iv(1, inf), iv(-inf, -1)},
		{-1, iv(-1, 1), entire, entire},
		{-1, one(0), empty, empty},
		{-2, iv(-1, 2), iv(0.25, inf), entire},
		{-2, iv(-2, -1), iv(0.25, 1), iv(0.125, 4)},
		{-3, iv(1, 2), iv(0.125, 1), iv(-12, -3./64)},
		{-3, iv(-2, -1), iv(-1, -0.125), iv(-12, -3./64)},
		{1024, one(1), one(1), one(1024)},
		{1024, iv(-1, -0.5), iv(0x1p-1024, 1), iv(-1024, -0x1p-1013)},
		{1024, one(2), iv(greatest, inf), iv(greatest, inf)},
		{1024, one(0), one(0), one(0)},
		{-1024, one(1), one(1), one(-1024)},
		{-1024, one(-1), one(1), one(1024)},
		{-1024, one(2), one(0x1p-1024), iv(-inf, 0)},
		{-1024, one(0.5), iv(greatest, inf), iv(-inf, -0x1p61)},
		{-1024, one(0), empty, empty},
		{1023, one(-1), one(-1), one(1023)},
		{-1023, one(-1), one(-1), one(-1023)},
	} {
		slopesAre(t, alone(api.OpPown, row.n), box{row.x}, row.y, row.slope)
	}
}

func TestRowsOfTwoOperands(t *testing.T) {
	for _, row := range []struct {
		op     int
		x, y   api.Interval
		value  api.Interval
		slopes box
	}{
		{api.OpAdd, iv(1, 2), iv(3, 5), iv(4, 7), box{one(1), one(1)}},
		{api.OpSub, iv(1, 2), iv(3, 5), iv(-4, -1), box{one(1), one(-1)}},
		{api.OpMul, iv(1, 2), iv(3, 5), iv(3, 10), box{iv(3, 5), iv(1, 2)}},
		{api.OpMul, one(0), entire, one(0), box{entire, one(0)}},
		{api.OpDiv, iv(1, 2), iv(4, 8), iv(0.125, 0.5), box{iv(0.125, 0.25), iv(-0.125, -0x1p-6)}},
		{api.OpDiv, iv(1, 2), iv(0, 4), iv(0.25, inf), box{iv(0.25, inf), iv(-inf, -0x1p-4)}},
		{api.OpDiv, iv(-1, 2), iv(1, 2), iv(-1, 2), box{iv(0.5, 1), iv(-2, 1)}},
		{api.OpDiv, one(0), iv(-1, 1), one(0), box{entire, one(0)}},
		{api.OpDiv, iv(1, 2), one(0), empty, box{empty, empty}},
		{api.OpMin, iv(0, 1), iv(2, 3), iv(0, 1), box{one(1), one(0)}},
		{api.OpMin, iv(2, 3), iv(0, 1), iv(0, 1), box{one(0), one(1)}},
		{api.OpMin, iv(0, 1), iv(1, 2), iv(0, 1), box{one(1), one(0)}},
		{api.OpMin, iv(1, 2), iv(0, 1), iv(0, 1), box{one(0), one(1)}},
		{api.OpMin, iv(0, 2), iv(1, 3), iv(0, 2), box{iv(0, 1), iv(0, 1)}},
		{api.OpMin, iv(1, 3), iv(0, 2), iv(0, 2), box{iv(0, 1), iv(0, 1)}},
		{api.OpMin, iv(0, 3), iv(1, 2), iv(0, 2), box{iv(0, 1), iv(0, 1)}},
		{api.OpMin, iv(1, 2), iv(1, 2), iv(1, 2), box{iv(0, 1), iv(0, 1)}},
		{api.OpMin, one(1), one(1), one(1), box{one(1), one(0)}},
		{api.OpMin, iv(1, 2), one(1), one(1), box{one(0), one(1)}},
		{api.OpMin, one(2), iv(1, 2), iv(1, 2), box{one(0), one(1)}},
		{api.OpMin, entire, entire, entire, box{iv(0, 1), iv(0, 1)}},
		{api.OpMin, iv(-1, signed), iv(0, 1), iv(-1, 0), box{one(1), one(0)}},
		{api.OpMax, iv(0, 1), iv(2, 3), iv(2, 3), box{one(0), one(1)}},
		{api.OpMax, iv(2, 3), iv(0, 1), iv(2, 3), box{one(1), one(0)}},
		{api.OpMax, iv(0, 1), iv(1, 2), iv(1, 2), box{one(0), one(1)}},
		{api.OpMax, iv(1, 2), iv(0, 1), iv(1, 2), box{one(1), one(0)}},
		{api.OpMax, iv(0, 2), iv(1, 3), iv(1, 3), box{iv(0, 1), iv(0, 1)}},
		{api.OpMax, iv(1, 3), iv(0, 2), iv(1, 3), box{iv(0, 1), iv(0, 1)}},
		{api.OpMax, iv(0, 3), iv(1, 2), iv(1, 3), box{iv(0, 1), iv(0, 1)}},
		{api.OpMax, iv(1, 2), iv(1, 2), iv(1, 2), box{iv(0, 1), iv(0, 1)}},
		{api.OpMax, one(1), one(1), one(1), box{one(1), one(0)}},
		{api.OpMax, iv(0, 1), one(1), one(1), box{one(0), one(1)}},
		{api.OpMax, one(1), iv(1, 2), iv(1, 2), box{one(0), one(1)}},
		{api.OpMax, iv(0, 1), iv(-1, signed), iv(0, 1), box{one(1), one(0)}},
	} {
		slopesAre(t, two(row.op), box{row.x, row.y}, row.value, row.slopes...)
	}
}

// One operand in several places.
func TestRowsOfTheSameOperand(t *testing.T) {
	for _, row := range []struct {
		op       int
		value, s api.Interval
	}{
		{api.OpAdd, iv(2, 4), one(2)},
		{api.OpSub, iv(-1, 1), one(0)},
		{api.OpMul, iv(1, 4), iv(2, 4)},
		{api.OpDiv, iv(0.5, 2), iv(-1, 0.5)},
		{api.OpMin, iv(1, 2), one(1)},
		{api.OpMax, iv(1, 2), one(1)},
		{api.OpFMA, iv(2, 6), iv(3, 5)},
	} {
		slopesAre(t, alone(row.op, 0), box{iv(1, 2)}, row.value, row.s)
	}
	fma := api.Program{Vars: 3, Code: []api.Ins{{Op: api.OpFMA, A: 0, B: 1, C: 2}}}
	slopesAre(t, fma, box{iv(1, 2), iv(3, 5), iv(7, 8)}, iv(10, 18), iv(3, 5), iv(1, 2), one(1))
	fma.Code[0] = api.Ins{Op: api.OpFMA, A: 1, B: 2, C: 1}
	slopesAre(t, fma, box{iv(1, 2), iv(3, 5), iv(7, 8)}, iv(24, 45), one(0), iv(8, 9), iv(3, 5))
}

// What is added is rounded at each step, in the order that the row has.
func TestRowsAreRounded(t *testing.T) {
	// x y + x at x = 1, where y, 2^53 x - (2^53 - 1), is 1: (2^53 + 1) + 1.
	p := api.Program{Vars: 1, Consts: box{one(0x1p53), one(0x1p53 - 1)}, Code: []api.Ins{{Op: api.OpConst}, {Op: api.OpConst, N: 1}, {Op: api.OpMul, A: 0, B: 1}, {Op: api.OpSub, A: 3, B: 2}, {Op: api.OpFMA, A: 0, B: 4, C: 0}}}
	slopesAre(t, p, box{one(1)}, one(2), iv(0x1p53, 0x1p53+4))
	// x / y at 1: 1 - 2^53, and no more of it than the row has, by 1.
	p.Code[4] = api.Ins{Op: api.OpDiv, A: 0, B: 4}
	slopesAre(t, p, box{one(1)}, one(1), one(1-0x1p53))
	// The third power of 0.1, by two products: 3 times 0.01 lies between two numbers.
	cube := api.Program{Vars: 1, Code: []api.Ins{{Op: api.OpMul}, {Op: api.OpMul, A: 0, B: 1}}}
	if w := asked(t, cube, box{one(0.1)}); !(w.slopes[0].Lo < w.slopes[0].Hi) {
		t.Errorf("the slope %v is one number", w.slopes[0])
	}
}

// Programs of no variables, with a last line that is a constant, with lines that are not used.
func TestOddPrograms(t *testing.T) {
	fixed := api.Program{Consts: box{iv(1, 2)}, Code: []api.Ins{{Op: api.OpConst}}}
	slopesAre(t, fixed, nil, iv(1, 2))
	slopesAre(t, fixed, box{}, iv(1, 2))
	fixed.Code = append(fixed.Code, api.Ins{Op: api.OpSqr, A: 0}, api.Ins{Op: api.OpFMA, A: 1, B: 0, C: 1})
	slopesAre(t, fixed, nil, iv(2, 12))
	none := api.Program{Consts: box{iv(-2, -1)}, Code: []api.Ins{{Op: api.OpConst}, {Op: api.OpSqrt}}}
	slopesAre(t, none, nil, empty)
	last := api.Program{Vars: 2, Consts: box{iv(1, 2), entire}, Code: []api.Ins{{Op: api.OpMul, A: 0, B: 1}, {Op: api.OpConst, N: 1}}}
	slopesAre(t, last, box{iv(3, 4), iv(5, 6)}, entire, one(0), one(0))
	unused := api.Program{Vars: 2, Code: []api.Ins{{Op: api.OpFloor, A: 0}, {Op: api.OpRecip, A: 1}, {Op: api.OpSub, A: 0, B: 1}}}
	slopesAre(t, unused, box{iv(0, 1), iv(-1, 1)}, iv(-1, 2), one(1), one(-1))
	// A line that is Empty makes all so, used or not.
	slopesAre(t, unused, box{iv(0, 1), one(0)}, empty, empty, empty)
	void := api.Program{Vars: 1, Consts: box{empty, one(1)}, Code: []api.Ins{{Op: api.OpConst, N: 1}, {Op: api.OpAdd, A: 0, B: 1}}}
	slopesAre(t, void, box{iv(1, 2)}, iv(2, 3), one(1)) // the constant is not named
	void.Code[0].N = 0
	slopesAre(t, void, box{iv(1, 2)}, empty, empty)
}

// A part that is read as Empty, used or not; parts that are read as others.
func TestPartsAsTheyAreRead(t *testing.T) {
	p := api.Program{Vars: 2, Code: []api.Ins{{Op: api.OpId, A: 0}}}
	for _, x := range append(wrongs(), valids()...) {
		if read(x) == empty {
			slopesAre(t, p, box{iv(1, 2), x}, empty, empty, empty)
			slopesAre(t, p, box{x, iv(1, 2)}, empty, empty, empty)
			meanIs(t, p, box{iv(1, 2), x}, empty)
			newtonIs(t, p, box{iv(-1, 2), x}, 0, empty)
			newtonIs(t, p, box{iv(-1, 2), x}, 1, empty)
		} else {
			slopesAre(t, p, box{iv(1, 2), x}, iv(1, 2), one(1), one(0))
			slopesAre(t, p, box{x, iv(1, 2)}, read(x), one(1), one(0))
		}
		for _, op := range ops()[1:] {
			asked(t, alone(op, 0), box{x})
		}
		asked(t, two(api.OpMul), box{x, iv(-1, 3)})
	}
}

// Each operation, its operands a variable, another one, a constant, a line ahead: in all ways.
func TestOperands(t *testing.T) {
	boxes := []box{{iv(1, 2), iv(3, 5)}, {iv(-1, 2), iv(-0.5, 1)}, {iv(0, 1), iv(1, 2)}, {one(1), one(1)}, {iv(0.1, 0.3), iv(-0.7, 0.1)}, {entire, iv(1, inf)}, {iv(-3, -1), one(0)}}
	for _, constant := range []api.Interval{one(1), iv(0.25, 2), iv(-1, 1)} {
		for _, op := range ops() {
			for _, in := range placed(op) {
				p := api.Program{Vars: 2, Consts: box{constant}, Code: []api.Ins{{Op: api.OpConst}, {Op: api.OpMul, A: 0, B: 1}, in}}
				for _, b := range boxes {
					asked(t, p, b)
				}
			}
		}
	}
}

// placed tells the lines of an operation with all operands below 4, and some powers.
func placed(op int) []api.Ins {
	out := []api.Ins{{Op: op}}
	for _, name := range uses(op) {
		var more []api.Ins
		for _, in := range out {
			for _, x := range choices(op, name) {
				*field(&in, name) = x
				more = append(more, in)
			}
		}
		out = more
	}
	return out
}

func choices(op int, name rune) []int {
	switch {
	case name != 'N':
		return []int{0, 1, 2, 3}
	case op == api.OpPown:
		return []int{0, 1, -1, 2, -2, 3, -3, 7, api.MaxPow, -api.MaxPow}
	}
	return []int{0}
}

// Programs as they fall, over boxes as they fall.
func TestProgramsByWords(t *testing.T) {
	d := dice(18010)
	var full, open, narrower, cut, void int
	for range 12000 {
		p := d.any()
		b := list(p.Vars, d.part)
		w := asked(t, p, b)
		if w.value == empty {
			continue
		}
		full++
		for i := range b {
			if s := w.slopes[i]; s == empty {
				t.Errorf("%s; %v: no slope", shown(p), b)
			} else if s != entire && s.Lo != s.Hi {
				open++
			}
			if w.newton[i] == empty {
				void++
			} else if w.newton[i] != read(b[i]) {
				cut++
			}
		}
		if w.mean != w.value {
			narrower++
		}
	}
	if full < 4000 || open < 1000 || narrower < 300 || cut < 300 || void < 300 {
		t.Errorf("%d values, %d slopes with an extent, %d means that say more, %d parts cut, %d left out", full, open, narrower, cut, void)
	}
	for range 4000 {
		p := d.any()
		asked(t, p, list(p.Vars, d.wild))
	}
}

// At the limits all is well.
func TestLimits(t *testing.T) {
	d := dice(18011)
	smooth := []int{api.OpConst, api.OpId, api.OpNeg, api.OpAdd, api.OpSub, api.OpMul, api.OpAbs, api.OpMin, api.OpMax, api.OpSqr, api.OpFMA, api.OpFloor}
	p := api.Program{Vars: api.MaxVars, Consts: list(api.MaxConsts, d.bounded)}
	for len(p.Code) < api.MaxCode {
		in, _ := d.line(pick(&d, smooth...), len(p.Code), p.Vars, len(p.Consts))
		p.Code = append(p.Code, in)
	}
	if _, e := expr.Check(p); e != api.OK {
		t.Fatal(e)
	}
	b := list(p.Vars, d.bounded)
	asked(t, p, b)
	// All variables play a part: x0 x1 + x1 x2 + ..
	sum := api.Program{Vars: api.MaxVars, Code: []api.Ins{{Op: api.OpMul, A: 0, B: 1}}}
	for len(sum.Code) < api.MaxCode {
		v := len(sum.Code) % (api.MaxVars - 1)
		sum.Code = append(sum.Code, api.Ins{Op: api.OpFMA, A: v, B: v + 1, C: sum.Vars + len(sum.Code) - 1})
	}
	w := asked(t, sum, b)
	if slices.Contains(w.slopes, one(0)) {
		t.Errorf("slopes %v", w.slopes)
	}
}
