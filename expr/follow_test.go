package expr_test

import (
	"math"
	"math/big"
	"testing"

	"verge/api"
	"verge/deco"
	"verge/expr"
)

// P16.11, W1 and W2, at points: traces in reals, as ratios of whole numbers.

// within tells whether a real is an element.
func within(v *big.Rat, x api.Interval) bool { return order(x.Lo, v) <= 0 && order(x.Hi, v) >= 0 }

// order tells -1, 0, 1, as an end lies below a real, at it, above it.
func order(end float64, v *big.Rat) int {
	switch end {
	case -inf:
		return -1
	case inf:
		return 1
	}
	return new(big.Rat).SetFloat64(end).Cmp(v)
}

// holdsRoot tells whether the root of a real that is not below 0 is an element.
func holdsRoot(v *big.Rat, x api.Interval) bool {
	square := func(end float64) *big.Rat {
		r := new(big.Rat).SetFloat64(end)
		return r.Mul(r, r)
	}
	low := x.Lo <= 0 || x.Lo != inf && square(x.Lo).Cmp(v) <= 0
	return low && (x.Hi == inf || x.Hi >= 0 && square(x.Hi).Cmp(v) >= 0)
}

// element tells one of an interval: an end of it, the middle, or something between.
func (d *dice) element(x api.Interval) *big.Rat {
	if math.IsInf(x.Lo, -1) {
		x.Lo = min(x.Hi, 0) - 1000
	}
	if math.IsInf(x.Hi, 1) {
		x.Hi = max(x.Lo, 0) + 1000
	}
	lo, hi := new(big.Rat).SetFloat64(x.Lo), new(big.Rat).SetFloat64(x.Hi)
	part := big.NewRat(int64(pick(d, 0, 0, 12, 12, 6, 3, 1, d.below(13))), 12)
	return lo.Add(lo, part.Mul(part, hi.Sub(hi, lo)))
}

// open tells an interval with small numbers as ends, and now and then an infinity.
func (d *dice) open() api.Interval {
	x := d.bounded()
	switch d.below(24) {
	case 0:
		x.Lo = -inf
	case 1:
		x.Hi = inf
	case 2:
		x = entire
	}
	return x
}

func floorOf(v *big.Rat) *big.Rat {
	return new(big.Rat).SetInt(new(big.Int).Div(v.Num(), v.Denom())) // big.Int's Div leaves a rest from 0 on
}

func minus(v *big.Rat) *big.Rat { return new(big.Rat).Neg(v) }

func plus(v, w *big.Rat) *big.Rat { return new(big.Rat).Add(v, w) }

func times(v, w *big.Rat) *big.Rat { return new(big.Rat).Mul(v, w) }

// nearestOf tells the whole number nearest to a real; of two, if even, that one, else the one farther
// from 0.
func nearestOf(v *big.Rat, even bool) *big.Rat {
	half := big.NewRat(1, 2)
	size := new(big.Rat).Abs(v)
	n := floorOf(plus(size, half))
	if even && plus(size, half).Cmp(n) == 0 && n.Num().Bit(0) == 1 {
		n = plus(n, big.NewRat(-1, 1))
	}
	return times(n, big.NewRat(int64(v.Sign()), 1))
}

func lesser(v, w *big.Rat) *big.Rat {
	if v.Cmp(w) < 0 {
		return v
	}
	return w
}

// powerOf takes no power below 0 of 0.
func powerOf(v *big.Rat, n int) *big.Rat {
	out := big.NewRat(1, 1)
	for range max(n, -n) {
		out = times(out, v)
	}
	if n < 0 {
		out.Inv(out)
	}
	return out
}

// done tells what an operation makes of reals, and whether it is defined there; Sqrt is rooted's.
func done(in api.Ins, v ...*big.Rat) (*big.Rat, bool) {
	switch in.Op {
	case api.OpId:
		return v[0], true
	case api.OpNeg:
		return minus(v[0]), true
	case api.OpAdd:
		return plus(v[0], v[1]), true
	case api.OpSub:
		return plus(v[0], minus(v[1])), true
	case api.OpMul:
		return times(v[0], v[1]), true
	case api.OpFMA:
		return plus(times(v[0], v[1]), v[2]), true
	case api.OpDiv:
		return ratio(v[0], v[1])
	case api.OpRecip:
		return ratio(big.NewRat(1, 1), v[0])
	case api.OpSqr:
		return times(v[0], v[0]), true
	case api.OpPown:
		if in.N < 0 && v[0].Sign() == 0 {
			return nil, false
		}
		return powerOf(v[0], in.N), true
	}
	return stepped(in.Op, v...), true
}

func ratio(v, w *big.Rat) (*big.Rat, bool) {
	if w.Sign() == 0 {
		return nil, false
	}
	return new(big.Rat).Quo(v, w), true
}

func stepped(op int, v ...*big.Rat) *big.Rat {
	switch op {
	case api.OpAbs:
		return new(big.Rat).Abs(v[0])
	case api.OpMin:
		return lesser(v[0], v[1])
	case api.OpMax:
		return minus(lesser(minus(v[0]), minus(v[1])))
	case api.OpSign:
		return big.NewRat(int64(v[0].Sign()), 1)
	case api.OpFloor:
		return floorOf(v[0])
	case api.OpCeil:
		return minus(floorOf(minus(v[0])))
	case api.OpTrunc:
		return times(floorOf(new(big.Rat).Abs(v[0])), big.NewRat(int64(v[0].Sign()), 1))
	}
	return nearestOf(v[0], op == api.OpRoundEven)
}

// rooted tells the root of a real that is not below 0, if it is a ratio of whole numbers; else nil.
func rooted(v *big.Rat) *big.Rat {
	num, den := new(big.Int).Sqrt(v.Num()), new(big.Int).Sqrt(v.Denom())
	r := new(big.Rat).SetFrac(num, den)
	if times(r, r).Cmp(v) != 0 {
		return nil
	}
	return r
}

func isStep(op int) bool { return op >= api.OpSign }

// passage is a trace at a point, as far as it was followed: a real for each line, nil where one is not
// a ratio of whole numbers, or too long; defined tells that each line is, as far as that is known.
type passage struct {
	lines   []*big.Rat
	defined bool
}

// follow goes through a program at a point, with elements of the constants as they fall, and holds each
// line's real against what Trace answers for it.
func (d *dice) follow(t *testing.T, p api.Program, point []*big.Rat, lines box) passage {
	t.Helper()
	values := append([]*big.Rat{}, point...)
	for at, in := range p.Code {
		v := []*big.Rat{}
		known := true
		for _, name := range uses(in.Op) {
			if name != 'N' {
				x := values[*field(&in, name)]
				v, known = append(v, x), known && x != nil
			}
		}
		var y *big.Rat
		defined := true
		switch {
		case !known:
		case in.Op == api.OpConst:
			y = d.element(p.Consts[in.N])
		case in.Op == api.OpSqrt && v[0].Sign() < 0:
			defined = false
		case in.Op == api.OpSqrt:
			if !holdsRoot(v[0], lines[at]) {
				t.Errorf("W1: %s: line %d: the root of %v, Trace says %v", shown(p), at, v[0], lines[at])
			}
			y = rooted(v[0])
		default:
			y, defined = done(in, v...)
		}
		if !defined {
			return passage{values[p.Vars:], false}
		}
		if y != nil && !within(y, lines[at]) {
			t.Errorf("W1: %s: line %d: %v, Trace says %v", shown(p), at, y, lines[at])
		}
		if y != nil && y.Num().BitLen()+y.Denom().BitLen() > 4000 {
			y = nil
		}
		values = append(values, y)
	}
	return passage{values[p.Vars:], true}
}

// modest tells a program whose powers are small, so that its reals can be followed; its roots are most
// often those of squares.
func (d *dice) modest() api.Program {
	p := d.program(d.below(4), 1+d.below(3), 1+d.below(8), d.open)
	for at := range p.Code {
		in := &p.Code[at]
		if in.Op == api.OpPown {
			in.N = d.below(9) - 4
		}
		if in.Op == api.OpSqrt && at > 0 && d.below(3) > 0 {
			p.Code[at-1] = api.Ins{Op: api.OpSqr, A: p.Code[at-1].A}
			if p.Vars+at-1 == 0 {
				p.Code[0] = api.Ins{Op: api.OpConst}
			}
			in.A = p.Vars + at - 1
		}
	}
	return p
}

// W1: what Trace and Eval answer holds the reals of all traces. W2: where a decoration says so, there
// is a trace at each point, and a step has one real in all of them.
func TestTracesAtPoints(t *testing.T) {
	d := dice(16060)
	var seen [5]int
	ended := 0
	for range 6000 {
		p := d.modest()
		g := made(t, p)
		b := list(p.Vars, d.open)
		lines, _ := g.Trace(b)
		value, _ := g.Eval(b)
		told := surely(t, g, b, value)
		seen[told.D/4]++
		var first passage
		for n := range 8 {
			var point []*big.Rat
			for _, x := range b {
				point = append(point, d.element(x))
			}
			one := d.follow(t, p, point, lines)
			if n == 0 {
				first = one
			}
			if one.defined {
				ended++
			}
			one.agrees(t, p, first, told)
		}
	}
	for _, rank := range ranks() {
		if seen[rank/4] < 300 {
			t.Errorf("the decoration %d came %d times", rank, seen[rank/4])
		}
	}
	if ended < 10000 {
		t.Errorf("only %d traces", ended)
	}
}

// surely tells what EvalDeco answers of a box whose parts are as sure as they can be.
func surely(t *testing.T, g *expr.Engine, b box, value api.Interval) api.Deco {
	t.Helper()
	var sure []api.Deco
	bounded := finite(value)
	for _, x := range b {
		sure, bounded = append(sure, deco.New(x)), bounded && finite(x)
	}
	told, e := g.EvalDeco(sure)
	if e != api.OK || !same(told.X, value) || told.D == api.Ill || told.D == api.Com && !bounded {
		t.Errorf("W2: over %v: %v, %d, Eval says %v", b, told, e, value)
	}
	return told
}

// agrees holds a trace, and another one of the program over the same box, against what EvalDeco answers.
func (one passage) agrees(t *testing.T, p api.Program, other passage, told api.Deco) {
	t.Helper()
	if !one.defined {
		if told.D >= api.Def {
			t.Errorf("W2: %s has a point without a trace, EvalDeco says %v", shown(p), told)
		}
		return
	}
	if last := one.lines[len(one.lines)-1]; told.X == empty || last != nil && !within(last, told.X) {
		t.Errorf("W1: %s: the last real is %v, Eval says %v", shown(p), last, told.X)
	}
	if told.D < api.Dac {
		return
	}
	for at, in := range p.Code {
		v, w := one.lines[at], other.lines[at]
		if isStep(in.Op) && v != nil && w != nil && v.Cmp(w) != 0 {
			t.Errorf("W2: %s: line %d is %v and %v, EvalDeco says %v", shown(p), at, v, w, told)
		}
	}
}

// W1: where a bound is too great for a number, the end is infinite.
func TestTooGreat(t *testing.T) {
	p := api.Program{Vars: 1}
	for at := range 40 {
		p.Code = append(p.Code, api.Ins{Op: api.OpSqr, A: at})
	}
	g := made(t, p)
	evals(t, g, iv(greatest, inf), iv(2, 2))
	evals(t, g, iv(1, inf), iv(1, 2))
	evals(t, g, iv(0, least), iv(0.5, 0.5))
	evals(t, g, iv(0, inf), entire)
	evalsDeco(t, g, dv(greatest, inf, api.Dac), dv(2, 2, api.Com))
	evalsDeco(t, g, dv(0, least, api.Com), dv(0.5, 0.5, api.Com))
}

// piece tells what lies in a valid interval: a part of it, itself, or Empty.
func (d *dice) piece(x api.Interval) api.Interval {
	if x == empty {
		return empty
	}
	inside := func() float64 {
		lo, hi := max(x.Lo, -greatest), min(x.Hi, greatest)
		v := lo/2 + hi/2 + (hi/2-lo/2)*float64(d.below(9)-4)/4
		return pick(d, x.Lo, x.Hi, min(max(v, lo), hi))
	}
	a, b := inside(), inside()
	switch d.below(20) {
	case 0:
		return empty
	case 1, 2:
		return x
	}
	return read(iv(min(a, b), max(a, b)))
}

func inside(x, y api.Interval) bool { return x == empty || y.Lo <= x.Lo && x.Hi <= y.Hi }

// A box in another one: each line's value in the other one's, the answer too.
func TestBoxesInBoxes(t *testing.T) {
	d := dice(16061)
	narrower := 0
	for range 8000 {
		p := d.any()
		g := made(t, p)
		outer := readBox(list(p.Vars, d.part))
		inner := box{}
		for _, x := range outer {
			inner = append(inner, d.piece(x))
		}
		wide, _ := g.Eval(outer)
		narrow, _ := g.Eval(inner)
		if !inside(narrow, wide) {
			t.Errorf("%s: over %v %v, over %v %v", shown(p), outer, wide, inner, narrow)
		}
		if narrow != wide && narrow != empty {
			narrower++
		}
		lines, _ := g.Trace(outer)
		few, _ := g.Trace(inner)
		for at := range lines {
			if !inside(few[at], lines[at]) {
				t.Errorf("%s: line %d: over %v %v, over %v %v", shown(p), at, outer, lines[at], inner, few[at])
			}
		}
	}
	if narrower < 1000 {
		t.Errorf("only %d narrower answers", narrower)
	}
}

// W2: Eval's interval bit for bit, with each decoration of the parts; none is stronger than theirs.
func TestDecorationsChangeNoInterval(t *testing.T) {
	d := dice(16062)
	for range 8000 {
		p := d.any()
		g := made(t, p)
		b := list(p.Vars, d.part)
		dressed := d.dressed(b)
		weakest := api.Com
		for i, x := range dressed {
			weakest = min(weakest, readDeco(x).D)
			b[i] = readDeco(x).X
		}
		value, _ := g.Eval(b)
		got, e := g.EvalDeco(dressed)
		switch {
		case weakest == api.Ill:
			evalsDeco(t, g, nai, dressed...)
		case e != api.OK || !same(got.X, value) || got.D == api.Ill || got.D > weakest:
			t.Errorf("%s over %v = %v, %d, Eval says %v", shown(p), dressed, got, e, value)
		}
	}
}

// The reals that are followed, held against floats that are exact.
func TestRealsWrittenOut(t *testing.T) {
	for _, row := range []struct {
		op int
		of func(float64) float64
	}{
		{api.OpFloor, math.Floor}, {api.OpCeil, math.Ceil}, {api.OpTrunc, math.Trunc},
		{api.OpRoundEven, math.RoundToEven}, {api.OpRoundAway, math.Round}, {api.OpAbs, math.Abs},
	} {
		for x := -3.5; x <= 3.5; x += 0.125 {
			y, ok := done(api.Ins{Op: row.op}, new(big.Rat).SetFloat64(x))
			if want := new(big.Rat).SetFloat64(row.of(x)); !ok || y.Cmp(want) != 0 {
				t.Errorf("operation %d of %g is %v here", row.op, x, y)
			}
		}
	}
}
