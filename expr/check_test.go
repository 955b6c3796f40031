package expr_test

import (
	"math"
	"slices"
	"testing"

	"verge/api"
)

// P16.1 and P16.2

// beyond tells numbers below and above all that may stand anywhere.
func beyond() []int {
	return []int{math.MinInt, math.MinInt + 1, -1 << 31, -65536, -65535, -1, 1 << 16, 1<<16 + 1, 1<<31 - 1, math.MaxInt - 1, math.MaxInt}
}

func TestVars(t *testing.T) {
	for vars := -3; vars < 40; vars++ {
		p := api.Program{Vars: vars, Consts: box{iv(1, 2)}, Code: []api.Ins{{Op: api.OpConst}}}
		e := api.OK
		if vars < 0 || vars > 32 {
			e = api.ErrVars
		}
		check(t, p, 0, e)
	}
	for _, vars := range beyond() {
		check(t, api.Program{Vars: vars, Consts: box{iv(1, 2)}, Code: []api.Ins{{Op: api.OpConst}}}, 0, api.ErrVars)
	}
}

func TestConsts(t *testing.T) {
	check(t, api.Program{Vars: 1, Code: []api.Ins{{Op: api.OpId}}}, 0, api.OK)
	check(t, api.Program{Vars: 1, Consts: box{}, Code: []api.Ins{{Op: api.OpId}}}, 0, api.OK)
	check(t, fixed(255, 1), 0, api.OK)
	check(t, fixed(256, 256), 0, api.OK)
	check(t, fixed(257, 1), 0, api.ErrConst)
	check(t, fixed(512, 1), 0, api.ErrConst)
	check(t, fixed(65536, 1), 0, api.ErrConst)
	for _, x := range valids() {
		p := fixed(3, 3)
		p.Consts[1] = x
		check(t, p, 0, api.OK)
	}
	for _, x := range wrongs() {
		for _, at := range []int{0, 1, 100, 254, 255} {
			p := fixed(256, 1) // most of them no line names
			p.Consts[at] = x
			check(t, p, 0, api.ErrConst)
		}
	}
}

func TestCode(t *testing.T) {
	check(t, api.Program{Vars: 1}, 0, api.ErrCode)
	check(t, api.Program{Vars: 1, Code: []api.Ins{}}, 0, api.ErrCode)
	check(t, api.Program{}, 0, api.ErrCode)
	for _, lines := range []int{1, 2, 255, 256, 257, 1023, 1024} {
		check(t, sums(1, lines), 0, api.OK)
	}
	for _, lines := range []int{1025, 1026, 2048, 65537} {
		check(t, sums(1, lines), 0, api.ErrCode)
	}
}

func TestOps(t *testing.T) {
	for op := -5; op < 300; op++ {
		p := sums(2, 5)
		p.Code[3] = api.Ins{Op: op, A: 0}
		switch e := api.ErrOp; {
		case op == api.OpConst:
			check(t, p, 3, api.ErrOperand) // there is no constant
		default:
			if op > api.OpConst && op <= api.OpRoundAway {
				e = api.OK
			}
			check(t, p, place(e, 3), e)
		}
	}
	for _, op := range beyond() {
		p := sums(2, 5)
		p.Code[4].Op = op
		check(t, p, 4, api.ErrOp)
	}
}

// place tells the number of the line that is told with an error.
func place(e api.Errno, line int) int {
	if e == api.OK {
		return 0
	}
	return line
}

// Each field of each operation's line: used, at all that it may be and next to it; not used, 0 alone.
func TestFields(t *testing.T) {
	for _, vars := range []int{0, 1, 2, 31, 32} {
		for _, at := range []int{0, 1, 2, 7} {
			for _, consts := range []int{0, 1, 5} {
				for _, op := range ops() {
					tryFields(t, vars, at, consts, op)
				}
			}
		}
	}
}

// tryFields turns the fields of one line, with a good one behind it, and with a bad one.
func tryFields(t *testing.T, vars, at, consts, op int) {
	p := api.Program{Vars: vars, Consts: list(consts, func() api.Interval { return iv(1, 2) })}
	if at > 0 && vars+consts == 0 {
		p.Consts = box{iv(1, 2)}
	}
	for i := range at {
		p.Code = append(p.Code, api.Ins{Op: api.OpId, A: max(0, vars+i-1)})
		if vars == 0 && i == 0 {
			if len(p.Consts) == 0 {
				p.Consts = box{iv(1, 2)}
			}
			p.Code[0] = api.Ins{Op: api.OpConst}
		}
	}
	p.Code = append(p.Code, api.Ins{Op: op})
	edges := append(beyond(), 0, 1, 2, vars-1, vars, vars+at-2, vars+at-1, vars+at, vars+at+1, len(p.Consts)-1, len(p.Consts), len(p.Consts)+1, 256, 1023, 1024, 1025, -2, -1023, -1024, -1025)
	for _, name := range "ABCN" {
		for _, x := range edges {
			q := copied(p)
			*field(&q.Code[at], name) = x
			checkByWords(t, q)
			q.Code = append(q.Code, api.Ins{Op: api.OpNeg, A: vars + at}, api.Ins{Op: api.OpNeg, A: vars + at + 1})
			checkByWords(t, q)
			q.Code[at+1].A = vars + at + 1
			checkByWords(t, q)
		}
	}
}

// The same by the chapter's own words, written out.
func TestLinesWrittenOut(t *testing.T) {
	for _, row := range []struct {
		in api.Ins
		e  api.Errno
	}{
		{api.Ins{Op: api.OpConst, N: 0}, api.OK},
		{api.Ins{Op: api.OpConst, N: 2}, api.OK},
		{api.Ins{Op: api.OpConst, N: 3}, api.ErrOperand},
		{api.Ins{Op: api.OpConst, N: -1}, api.ErrOperand},
		{api.Ins{Op: api.OpConst, A: 1}, api.ErrOperand},
		{api.Ins{Op: api.OpConst, B: 1}, api.ErrOperand},
		{api.Ins{Op: api.OpConst, C: 1}, api.ErrOperand},
		{api.Ins{Op: api.OpNeg, A: 4}, api.OK},
		{api.Ins{Op: api.OpNeg, A: 5}, api.ErrOperand},
		{api.Ins{Op: api.OpNeg, A: -1}, api.ErrOperand},
		{api.Ins{Op: api.OpNeg, A: 1, B: 1}, api.ErrOperand},
		{api.Ins{Op: api.OpNeg, A: 1, N: 1}, api.ErrOperand},
		{api.Ins{Op: api.OpDiv, A: 4, B: 4}, api.OK},
		{api.Ins{Op: api.OpDiv, A: 4, B: 5}, api.ErrOperand},
		{api.Ins{Op: api.OpDiv, A: 5, B: 4}, api.ErrOperand},
		{api.Ins{Op: api.OpDiv, A: 4, B: 4, C: 4}, api.ErrOperand},
		{api.Ins{Op: api.OpFMA, A: 4, B: 4, C: 4}, api.OK},
		{api.Ins{Op: api.OpFMA, A: 4, B: 4, C: 5}, api.ErrOperand},
		{api.Ins{Op: api.OpFMA, A: 4, B: 4, C: -1}, api.ErrOperand},
		{api.Ins{Op: api.OpFMA, A: 4, B: 4, C: 4, N: 1}, api.ErrOperand},
		{api.Ins{Op: api.OpPown, A: 4, N: 1024}, api.OK},
		{api.Ins{Op: api.OpPown, A: 4, N: -1024}, api.OK},
		{api.Ins{Op: api.OpPown, A: 4, N: 0}, api.OK},
		{api.Ins{Op: api.OpPown, A: 4, N: 1025}, api.ErrPower},
		{api.Ins{Op: api.OpPown, A: 4, N: -1025}, api.ErrPower},
		{api.Ins{Op: api.OpPown, A: 4, N: math.MaxInt}, api.ErrPower},
		{api.Ins{Op: api.OpPown, A: 4, N: math.MinInt}, api.ErrPower},
		{api.Ins{Op: api.OpPown, A: 5, N: 1025}, api.ErrOperand},
		{api.Ins{Op: api.OpPown, A: -1, N: -1025}, api.ErrOperand},
		{api.Ins{Op: api.OpPown, A: 4, B: 1, N: 1025}, api.ErrOperand},
		{api.Ins{Op: api.OpPown, A: 4, C: 1, N: 1025}, api.ErrOperand},
		{api.Ins{Op: 0, A: -1, N: 2000}, api.ErrOp},
		{api.Ins{Op: 22, A: 9, B: 9}, api.ErrOp},
		{api.Ins{}, api.ErrOp},
	} {
		p := api.Program{Vars: 2, Consts: box{iv(1, 2), iv(3, 4), iv(5, 6)}, Code: []api.Ins{{Op: api.OpMul, A: 0, B: 1}, {Op: api.OpSqrt, A: 2}, {Op: api.OpAdd, A: 3, B: 0}, row.in}}
		check(t, p, place(row.e, 3), row.e)
	}
}

// fault makes one thing wrong with a program of four lines, two variables and constants; where it is
// told, and as what.
type fault struct {
	turn func(p *api.Program)
	line int
	e    api.Errno
}

// faults are in the order in which they are told.
func faults() []fault {
	out := []fault{
		{func(p *api.Program) { p.Vars = 33 }, 0, api.ErrVars},
		{func(p *api.Program) { p.Consts[1].Lo = 7 }, 0, api.ErrConst},
		{func(p *api.Program) { p.Code = append(p.Code, make([]api.Ins, 1024)...) }, 0, api.ErrCode},
	}
	for at := range 4 {
		out = append(out, fault{func(p *api.Program) { p.Code[at].Op = 22 }, at, api.ErrOp},
			fault{func(p *api.Program) { p.Code[at].A = 40 }, at, api.ErrOperand},
			fault{func(p *api.Program) { p.Code[at].N = 1025 }, at, api.ErrPower})
	}
	return out
}

func TestSeveralFaults(t *testing.T) {
	for i, first := range faults() {
		for _, second := range faults()[i:] {
			for _, third := range faults()[i:] {
				p := api.Program{Vars: 2, Consts: box{iv(1, 2), iv(3, 4)}}
				for at := range 4 {
					p.Code = append(p.Code, api.Ins{Op: api.OpPown, A: at, N: 2})
				}
				for _, f := range []fault{third, second, first} {
					f.turn(&p)
				}
				check(t, p, first.line, first.e)
			}
		}
	}
	for _, p := range []api.Program{{Vars: -1}, {Vars: 33, Consts: fixed(257, 1).Consts}, {Vars: -1, Consts: box{iv(2, 1)}}} {
		check(t, p, 0, api.ErrVars)
	}
	for _, p := range []api.Program{{Consts: fixed(257, 1).Consts}, {Vars: 32, Consts: box{iv(2, 1)}}, {Consts: append(fixed(256, 1).Consts, iv(2, 1)), Code: []api.Ins{{}}}} {
		check(t, p, 0, api.ErrConst)
	}
}

// A line may name any line ahead, itself and those behind it not.
func TestEachLineNamesThoseAhead(t *testing.T) {
	for _, vars := range []int{0, 3, 32} {
		p := api.Program{Vars: vars, Consts: box{iv(1, 2)}, Code: []api.Ins{{Op: api.OpConst}}}
		for at := 1; at < 1024; at++ {
			p.Code = append(p.Code, api.Ins{Op: api.OpMax, A: vars + at - 1, B: vars + at/2})
		}
		check(t, p, 0, api.OK)
		for _, at := range []int{1, 2, 200, 255, 256, 1023} {
			for _, more := range []int{0, 1, 500} {
				q := copied(p)
				q.Code[at].A = vars + at + more
				check(t, q, at, api.ErrOperand)
				q = copied(p)
				q.Code[at].B = vars + at + more
				check(t, q, at, api.ErrOperand)
			}
		}
	}
}

func TestCheckByChance(t *testing.T) {
	d := dice(16010)
	for range 30000 {
		p := d.any()
		checkByWords(t, p)
		for range d.below(3) {
			d.turn(&p)
		}
		checkByWords(t, p)
	}
}

// turn changes a program a little: it may still be one.
func (d *dice) turn(p *api.Program) {
	number := func() int {
		return pick(d, d.below(12)-2, d.below(50)-5, pick(d, beyond()...), 1024, -1024, 1025, -1025)
	}
	switch d.below(8) {
	case 0:
		p.Vars = number()
	case 1:
		p.Consts = append(slices.Clone(p.Consts), d.wild())
	case 2:
		if len(p.Code) > 1 {
			p.Code = p.Code[1:]
		}
	case 3:
		p.Code = append(slices.Clone(p.Code), api.Ins{Op: d.below(25), A: d.below(9), B: d.below(3)})
	default:
		at := &p.Code[d.below(len(p.Code))]
		*pick(d, &at.Op, &at.A, &at.B, &at.C, &at.N) = number()
	}
}
