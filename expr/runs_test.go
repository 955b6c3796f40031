package expr_test

import (
	"math"
	"slices"
	"testing"

	"verge/api"
	"verge/deco"
	"verge/expr"
)

// P16.5 to P16.9

// one tells the program of one line, whose operands are the variables, from the first one on.
func one(op, n int) api.Program {
	in := api.Ins{Op: op, N: n}
	vars := 0
	for _, name := range uses(op) {
		if name != 'N' {
			*field(&in, name) = vars
			vars++
		}
	}
	return api.Program{Vars: vars, Code: []api.Ins{in}}
}

// Each operation by its line alone, written out.
func TestEachOperation(t *testing.T) {
	for _, row := range []struct {
		op, n int
		b     box
		want  api.Interval
		d     int
	}{
		{api.OpId, 0, box{iv(1, 2)}, iv(1, 2), api.Com},
		{api.OpNeg, 0, box{iv(1, 2)}, iv(-2, -1), api.Com},
		{api.OpAdd, 0, box{iv(1, 2), iv(3, 5)}, iv(4, 7), api.Com},
		{api.OpSub, 0, box{iv(1, 2), iv(3, 5)}, iv(-4, -1), api.Com},
		{api.OpMul, 0, box{iv(-1, 2), iv(3, 5)}, iv(-5, 10), api.Com},
		{api.OpDiv, 0, box{iv(1, 2), iv(4, 8)}, iv(0.125, 0.5), api.Com},
		{api.OpDiv, 0, box{iv(1, 2), iv(0, 8)}, iv(0.125, inf), api.Trv},
		{api.OpRecip, 0, box{iv(2, 4)}, iv(0.25, 0.5), api.Com},
		{api.OpSqr, 0, box{iv(-3, 2)}, iv(0, 9), api.Com},
		{api.OpSqrt, 0, box{iv(4, 9)}, iv(2, 3), api.Com},
		{api.OpSqrt, 0, box{iv(-4, 9)}, iv(0, 3), api.Trv},
		{api.OpFMA, 0, box{iv(1, 2), iv(3, 4), iv(5, 7)}, iv(8, 15), api.Com},
		{api.OpPown, 3, box{iv(-1, 2)}, iv(-1, 8), api.Com},
		{api.OpPown, 0, box{iv(-1, 2)}, iv(1, 1), api.Com},
		{api.OpPown, -1, box{iv(2, 4)}, iv(0.25, 0.5), api.Com},
		{api.OpPown, -2, box{iv(0, 2)}, iv(0.25, inf), api.Trv},
		{api.OpPown, 1024, box{iv(1, 2)}, iv(1, inf), api.Dac},
		{api.OpPown, 1023, box{iv(1, 2)}, iv(1, 0x1p1023), api.Com},
		{api.OpPown, -1024, box{iv(1, 2)}, iv(0x1p-1024, 1), api.Com},
		{api.OpAbs, 0, box{iv(-3, 2)}, iv(0, 3), api.Com},
		{api.OpMin, 0, box{iv(1, 4), iv(2, 3)}, iv(1, 3), api.Com},
		{api.OpMax, 0, box{iv(1, 4), iv(2, 3)}, iv(2, 4), api.Com},
		{api.OpSign, 0, box{iv(2, 3)}, iv(1, 1), api.Com},
		{api.OpSign, 0, box{iv(0, 3)}, iv(0, 1), api.Def},
		{api.OpFloor, 0, box{iv(1, 1.5)}, iv(1, 1), api.Com},
		{api.OpFloor, 0, box{iv(0.5, 1)}, iv(0, 1), api.Def},
		{api.OpCeil, 0, box{iv(1.25, 2.5)}, iv(2, 3), api.Def},
		{api.OpTrunc, 0, box{iv(-1.75, 1.75)}, iv(-1, 1), api.Def},
		{api.OpRoundEven, 0, box{iv(0.5, 2.5)}, iv(0, 2), api.Def},
		{api.OpRoundAway, 0, box{iv(0.5, 2.5)}, iv(1, 3), api.Def},
		{api.OpAdd, 0, box{iv(1, inf), iv(3, 5)}, iv(4, inf), api.Dac},
		{api.OpAdd, 0, box{iv(greatest, greatest), iv(greatest, greatest)}, iv(greatest, inf), api.Dac},
	} {
		g := made(t, one(row.op, row.n))
		evals(t, g, row.want, row.b...)
		traces(t, g, row.b, row.want)
		var sure []api.Deco
		for _, x := range row.b {
			sure = append(sure, deco.New(x))
		}
		evalsDeco(t, g, api.Deco{X: row.want, D: row.d}, sure...)
	}
}

// Each operand of each operation, told apart: in each place of a line each of six values.
func TestEachOperand(t *testing.T) {
	b := box{iv(1, 2), iv(-5, 3), iv(7, 11)}
	ahead := []api.Ins{{Op: api.OpSqr, A: 0}, {Op: api.OpConst, N: 1}, {Op: api.OpSub, A: 2, B: 0}}
	for _, op := range ops()[1:] {
		for a := range 6 {
			for bb := range 6 {
				for c := range 6 {
					in := api.Ins{Op: op}
					for i, name := range uses(op) {
						*field(&in, name) = []int{a, bb, c}[i]
					}
					p := api.Program{Vars: 3, Consts: box{iv(4, 4), iv(0.5, 1.25)}, Code: append(slices.Clone(ahead), in)}
					runByWords(t, made(t, p), p, b, []api.Deco{{X: b[0], D: api.Com}, {X: b[1], D: api.Com}, {X: b[2], D: api.Dac}})
				}
			}
		}
	}
}

func TestRunsByChance(t *testing.T) {
	d := dice(16030)
	var seen [5]int
	for range 12000 {
		p := d.any()
		g := made(t, p)
		for range 4 {
			b := list(p.Vars, d.part)
			dressed := d.dressed(b)
			runByWords(t, g, p, b, dressed)
			seen[decorated(p, dressed).D/4]++
		}
	}
	for i, n := range seen {
		if n < 200 {
			t.Errorf("the decoration %d came %d times", 4*i, n)
		}
	}
}

// Parts of any bit patterns, and any decorations: W4.
func TestRunsOverAnyBits(t *testing.T) {
	d := dice(16031)
	for range 12000 {
		p := d.any()
		g := made(t, p)
		b, dressed := list(p.Vars, d.wild), list(p.Vars, d.strange)
		if d.below(2) == 0 { // so that not all of them are NaI
			dressed = d.dressed(list(p.Vars, d.interval))
			for range d.below(2) * min(1, p.Vars) {
				dressed[d.below(p.Vars)] = d.strange()
			}
		}
		runByWords(t, g, p, b, dressed)
		x, _ := g.Eval(b)
		y, _ := g.EvalDeco(dressed)
		l, _ := g.Trace(b)
		if !right(x) || !rightDeco(y) || slices.ContainsFunc(l, func(x api.Interval) bool { return !right(x) }) {
			t.Errorf("%s over %x and %x: %x, %x, %x", shown(p), b, dressed, x, y, l)
		}
	}
}

// P16.6: too few parts and too many, whatever they are.
func TestBoxesOfOtherLengths(t *testing.T) {
	for _, vars := range []int{0, 1, 2, 7, 31, 32} {
		p := api.Program{Vars: vars, Consts: box{iv(1, 2)}, Code: []api.Ins{{Op: api.OpConst}}}
		g := made(t, p)
		for n := range 70 {
			for _, x := range []api.Deco{dv(3, 4, api.Com), {X: empty, D: api.Trv}, nai, dv(2, 1, api.Com), dv(nan, nan, 7)} {
				dressed := slices.Repeat([]api.Deco{x}, n)
				b := slices.Repeat(box{x.X}, n)
				if n == vars {
					runByWords(t, g, p, b, dressed)
					continue
				}
				if y, e := g.Eval(b); y != iv(0, 0) || e != api.ErrBox {
					t.Errorf("%d variables, %d parts: Eval = %v, %d", vars, n, y, e)
				}
				if y, e := g.EvalDeco(dressed); y != (api.Deco{}) || e != api.ErrBox {
					t.Errorf("%d variables, %d parts: EvalDeco = %v, %d", vars, n, y, e)
				}
				if l, e := g.Trace(b); len(l) != 0 || e != api.ErrBox {
					t.Errorf("%d variables, %d parts: Trace = %v, %d", vars, n, l, e)
				}
			}
		}
	}
}

func TestWithoutVariables(t *testing.T) {
	p := api.Program{Consts: box{iv(1, 2), iv(3, 4)}, Code: []api.Ins{{Op: api.OpConst, N: 1}, {Op: api.OpConst, N: 0}, {Op: api.OpSub, A: 0, B: 1}}}
	g := made(t, p)
	for _, b := range []box{nil, {}, make(box, 3)[:0]} {
		evals(t, g, iv(1, 3), b...)
		traces(t, g, b, iv(3, 4), iv(1, 2), iv(1, 3))
	}
	evalsDeco(t, g, dv(1, 3, api.Com))
	evalsDeco(t, g, dv(1, 3, api.Com), []api.Deco{}...)
}

// P16.7: a part that is read as Empty, used or not, and that no line is then anything.
func TestEmptyParts(t *testing.T) {
	p := api.Program{Vars: 3, Consts: box{iv(1, 2)}, Code: []api.Ins{{Op: api.OpConst}, {Op: api.OpId, A: 0}, {Op: api.OpAdd, A: 3, B: 1}}}
	g := made(t, p)
	traces(t, g, box{iv(1, 2), iv(3, 4), iv(5, 6)}, iv(1, 2), iv(1, 2), iv(4, 6))
	for at := range 3 {
		for _, x := range append(wrongs(), empty) {
			b := box{iv(1, 2), iv(3, 4), iv(5, 6)}
			b[at] = x
			if read(x) == empty {
				traces(t, g, b, empty, empty, empty)
				evals(t, g, empty, b...)
			}
			runByWords(t, g, p, b, []api.Deco{{X: b[0], D: api.Com}, {X: b[1], D: api.Com}, {X: b[2], D: api.Com}})
		}
		sure := []api.Deco{dv(1, 2, api.Com), dv(3, 4, api.Com), dv(5, 6, api.Com)}
		for _, rank := range ranks() {
			sure[at] = api.Deco{X: empty, D: rank}
			evalsDeco(t, g, api.Deco{X: empty, D: api.Trv}, sure...)
		}
	}
}

// An end -0 is read as 0, in what the lines make of it too.
func TestSignedNought(t *testing.T) {
	g := made(t, api.Program{Vars: 1, Code: []api.Ins{{Op: api.OpId}, {Op: api.OpNeg}, {Op: api.OpAdd, A: 1, B: 2}}})
	for _, x := range []api.Interval{iv(signed, 0), iv(0, signed), iv(signed, signed), iv(0, 0)} {
		traces(t, g, box{x}, iv(0, 0), iv(0, 0), iv(0, 0))
		evals(t, g, iv(0, 0), x)
		evalsDeco(t, g, dv(0, 0, api.Com), api.Deco{X: x, D: api.Com})
	}
	traces(t, g, box{iv(signed, 1)}, iv(0, 1), iv(-1, 0), iv(-1, 1))
	traces(t, g, box{iv(-1, signed)}, iv(-1, 0), iv(0, 1), iv(-1, 1))
}

// A line that is Empty makes none so that does not use it; but the program has no value then.
func TestEmptyLines(t *testing.T) {
	p := api.Program{Vars: 2, Consts: box{empty, iv(7, 8)}, Code: []api.Ins{
		{Op: api.OpSqrt, A: 0}, {Op: api.OpId, A: 1}, {Op: api.OpNeg, A: 2}, {Op: api.OpAdd, A: 3, B: 1}}}
	g := made(t, p)
	traces(t, g, box{iv(-2, -1), iv(3, 4)}, empty, iv(3, 4), empty, iv(6, 8))
	evals(t, g, empty, iv(-2, -1), iv(3, 4))
	evalsDeco(t, g, api.Deco{X: empty, D: api.Trv}, dv(-2, -1, api.Com), dv(3, 4, api.Com))
	traces(t, g, box{iv(4, 9), iv(3, 4)}, iv(2, 3), iv(3, 4), iv(-3, -2), iv(6, 8))
	evalsDeco(t, g, dv(6, 8, api.Com), dv(4, 9, api.Com), dv(3, 4, api.Com))
	evalsDeco(t, g, dv(6, 8, api.Trv), dv(-1, 9, api.Com), dv(3, 4, api.Com)) // a line that no other uses is not defined
	p.Code[0] = api.Ins{Op: api.OpConst, N: 0}
	g = made(t, p)
	traces(t, g, box{iv(4, 9), iv(3, 4)}, empty, iv(3, 4), empty, iv(6, 8))
	evals(t, g, empty, iv(4, 9), iv(3, 4))
	evalsDeco(t, g, api.Deco{X: empty, D: api.Trv}, dv(4, 9, api.Com), dv(3, 4, api.Com))
	p.Code = p.Code[:1]
	evals(t, made(t, p), empty, iv(4, 9), iv(3, 4))
	by := made(t, api.Program{Vars: 1, Consts: box{iv(0, 0)}, Code: []api.Ins{{Op: api.OpConst}, {Op: api.OpDiv, A: 0, B: 1}, {Op: api.OpId, A: 0}}})
	traces(t, by, box{iv(1, 2)}, iv(0, 0), empty, iv(1, 2))
	evals(t, by, empty, iv(1, 2))
}

// A line that no other uses counts all the same, first, between and last ones.
func TestUnusedLines(t *testing.T) {
	for _, row := range []struct {
		in api.Ins
		d  int
	}{
		{api.Ins{Op: api.OpSqr, A: 0}, api.Com},
		{api.Ins{Op: api.OpSqrt, A: 0}, api.Trv},
		{api.Ins{Op: api.OpRecip, A: 0}, api.Trv},
		{api.Ins{Op: api.OpFloor, A: 0}, api.Def},
		{api.Ins{Op: api.OpConst, N: 0}, api.Dac},
		{api.Ins{Op: api.OpConst, N: 1}, api.Com},
		{api.Ins{Op: api.OpPown, A: 1, N: 1024}, api.Dac},
	} {
		for at := range 3 {
			p := api.Program{Vars: 2, Consts: box{iv(1, inf), iv(1, 2)}, Code: []api.Ins{{Op: api.OpId, A: 1}, {Op: api.OpNeg, A: 1}}}
			p.Code = slices.Insert(p.Code, min(at, 1), row.in)
			if at == 2 {
				p.Code = append(p.Code, api.Ins{Op: api.OpNeg, A: 1})
			}
			g := made(t, p)
			evals(t, g, iv(-4, -3), iv(-1, 4), iv(3, 4))
			evalsDeco(t, g, dv(-4, -3, row.d), dv(-1, 4, api.Com), dv(3, 4, api.Com))
		}
	}
}

// P16.9: the parts' decorations, each alone weaker than all else, used or not.
func TestEachPartsDecoration(t *testing.T) {
	for _, p := range []api.Program{
		{Vars: 3, Code: []api.Ins{{Op: api.OpAdd, A: 0, B: 1}, {Op: api.OpMul, A: 3, B: 2}}},
		{Vars: 3, Code: []api.Ins{{Op: api.OpId, A: 1}}},
		{Vars: 3, Consts: box{iv(1, 2)}, Code: []api.Ins{{Op: api.OpConst}}},
	} {
		g := made(t, p)
		y, _ := g.Eval(box{iv(1, 2), iv(1, 2), iv(1, 2)})
		for _, a := range ranks() {
			for _, b := range ranks() {
				for _, c := range ranks() {
					evalsDeco(t, g, api.Deco{X: y, D: min(a, b, c)}, dv(1, 2, a), dv(1, 2, b), dv(1, 2, c))
				}
			}
		}
		for at := range 3 {
			for _, ill := range ills() {
				parts := []api.Deco{dv(1, 2, api.Com), dv(1, 2, api.Trv), {X: empty, D: api.Trv}}
				parts[at] = ill
				evalsDeco(t, g, nai, parts...)
			}
			parts := []api.Deco{dv(1, 2, api.Com), dv(1, 2, api.Com), dv(1, 2, api.Com)}
			parts[at] = dv(1, inf, api.Com) // which is read as Dac
			if got, e := g.EvalDeco(parts); got.D != api.Dac || e != api.OK {
				t.Errorf("EvalDeco(%v) = %v, %d", parts, got, e)
			}
		}
	}
}

// The constants' decorations: of those that a line names, of no others.
func TestEachConstantsDecoration(t *testing.T) {
	named := func(n int) api.Program {
		return api.Program{Vars: 1, Consts: box{iv(1, 2), iv(1, inf), entire, empty}, Code: []api.Ins{{Op: api.OpConst, N: n}, {Op: api.OpId, A: 0}}}
	}
	for n, want := range []api.Deco{dv(3, 4, api.Com), dv(3, 4, api.Dac), dv(3, 4, api.Dac), {X: empty, D: api.Trv}} {
		evalsDeco(t, made(t, named(n)), want, dv(3, 4, api.Com))
		evalsDeco(t, made(t, named(n)), api.Deco{X: want.X, D: min(want.D, api.Def)}, dv(3, 4, api.Def))
	}
	none := named(0)
	none.Code = []api.Ins{{Op: api.OpId, A: 0}}
	evalsDeco(t, made(t, none), dv(3, 4, api.Com), dv(3, 4, api.Com))
	last := named(1)
	last.Code = last.Code[:1]
	evalsDeco(t, made(t, last), dv(1, inf, api.Dac), dv(3, 4, api.Com))
	evals(t, made(t, last), iv(1, inf), iv(3, 4))
}

// A line in between is too great for numbers, or a step there leaps: the result's own look tells
// nothing of it.
func TestDecorationsOfLinesBetween(t *testing.T) {
	over := made(t, api.Program{Vars: 1, Code: []api.Ins{{Op: api.OpSqr, A: 0}, {Op: api.OpRecip, A: 1}}})
	evalsDeco(t, over, dv(0, 0x1p-1020, api.Dac), dv(0x1p510, 0x1p513, api.Com))
	leap := made(t, api.Program{Vars: 1, Code: []api.Ins{{Op: api.OpFloor, A: 0}, {Op: api.OpSub, A: 1, B: 1}, {Op: api.OpPown, A: 2, N: 0}}})
	evalsDeco(t, leap, dv(1, 1, api.Def), dv(0.5, 1, api.Com))
	evalsDeco(t, leap, dv(1, 1, api.Com), dv(1, 1.5, api.Com))
	evalsDeco(t, leap, dv(1, 1, api.Trv), dv(1, 1.5, api.Trv))
	hole := made(t, api.Program{Vars: 1, Code: []api.Ins{{Op: api.OpRecip, A: 0}, {Op: api.OpFloor, A: 1}, {Op: api.OpPown, A: 2, N: 0}}})
	evalsDeco(t, hole, dv(1, 1, api.Trv), dv(0, 1, api.Com))
	evalsDeco(t, hole, dv(1, 1, api.Def), dv(0.25, 1, api.Com))
}

// As many variables, constants and lines as there may be.
func TestGreatPrograms(t *testing.T) {
	p := sums(32, 1024)
	b, dressed := slices.Repeat(box{iv(1, 2)}, 32), slices.Repeat([]api.Deco{dv(1, 2, api.Com)}, 32)
	g := made(t, p)
	evals(t, g, iv(1025, 2050), b...)
	runByWords(t, g, p, b, dressed)
	if l, e := g.Trace(b); len(l) != 1024 || e != api.OK || l[0] != iv(2, 4) || l[1022] != iv(1024, 2048) {
		t.Errorf("Trace: %d lines, %d", len(l), e)
	}
	b[31], dressed[30].D = iv(-inf, 0), api.Def
	runByWords(t, g, p, b, dressed)
	q := fixed(256, 1024)
	evals(t, made(t, q), iv(255, 256))
	runByWords(t, made(t, q), q, nil, nil)
	d := dice(16032)
	for _, lines := range []int{100, 255, 256, 257, 700, 1024} {
		p := d.program(32, 256, lines, d.bounded)
		b := list(32, d.bounded)
		runByWords(t, made(t, p), p, b, d.dressed(b))
	}
}

// P16.5: what an engine was asked makes no difference to what it answers.
func TestAskedInAnyOrder(t *testing.T) {
	d := dice(16033)
	for range 500 {
		p := d.any()
		g := made(t, p)
		boxes := list(3, func() box { return list(p.Vars, d.part) })
		for range 12 {
			b := pick(&d, boxes...)
			switch lines, y, w := goneThrough(p, b); d.below(4) {
			case 0:
				traces(t, g, b, lines...)
			case 1:
				evals(t, g, y, b...)
			case 2:
				var sure []api.Deco
				for _, x := range readBox(b) {
					x := deco.New(x)
					sure, w = append(sure, x), min(w, x.D)
				}
				evalsDeco(t, g, api.Deco{X: y, D: w}, sure...)
			default:
				g.Eval(slices.Repeat(box{iv(1, 2)}, p.Vars+1))
			}
		}
	}
}

// Two engines, of one program and of others, have nothing in common.
func TestEnginesApart(t *testing.T) {
	d := dice(16034)
	programs := list(20, d.any)
	var engines []*expr.Engine
	for range 2 {
		for _, p := range programs {
			engines = append(engines, made(t, p))
		}
	}
	for round := range 50 {
		i := d.below(len(engines))
		p := programs[i%20]
		b := list(p.Vars, d.part)
		before := engines[(i+1+d.below(39))%40].Calls()
		runByWords(t, engines[i], p, b, d.dressed(b))
		if before > 3*round {
			t.Errorf("%d calls in round %d", before, round)
		}
	}
	sum := 0
	for _, g := range engines {
		sum += g.Calls()
	}
	if sum != 150 {
		t.Errorf("%d calls", sum)
	}
}

func TestPowersAtTheLimits(t *testing.T) {
	for _, n := range []int{-1024, -1023, -1, 0, 1, 1023, 1024} {
		p := one(api.OpPown, n)
		for _, x := range []api.Interval{iv(1, 2), iv(-1, 2), iv(0.5, 1), iv(1, 1), iv(0, 0), entire, iv(math.Nextafter(1, 2), 2)} {
			runByWords(t, made(t, p), p, box{x}, []api.Deco{{X: x, D: api.Com}})
		}
	}
}
