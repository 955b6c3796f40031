package sieve_test

import (
	"math"

	"verge/api"
	"verge/expr"
)

// What the tests hand in.

// dice are numbers that look like chance, the same at every run.
type dice uint64

func (d *dice) next() uint64 {
	*d ^= *d << 13
	*d ^= *d >> 7
	*d ^= *d << 17
	return uint64(*d) * 0x2545f4914f6cdd1d
}

func (d *dice) below(n int) int { return int(d.next() >> 1 % uint64(n)) }

func pick[T any](d *dice, l ...T) T { return l[d.below(len(l))] }

// list tells n things, each told by tell.
func list[T any](n int, tell func() T) []T {
	out := make([]T, n)
	for i := range out {
		out[i] = tell()
	}
	return out
}

// small tells numbers of few places.
func (d *dice) small() float64 { return math.Ldexp(float64(d.below(33)-16), -d.below(4)) }

// end tells numbers, most of them small, infinities, and numbers on which much hangs.
func (d *dice) end() float64 {
	switch d.below(10) {
	case 0:
		return pick(d, -inf, inf)
	case 1:
		return pick(d, least, -least, 0x1p-1022, 0x1p-537, 0.1, 1./3, 0x1p53, -0x1p512, 0x1p1023, greatest, -greatest)
	case 2:
		return math.Ldexp(float64(d.next()>>11), -1074+d.below(2046)) * pick(d, -1.0, 1)
	}
	return d.small()
}

// interval tells one that is not Empty.
func (d *dice) interval() api.Interval {
	x, y := d.end(), d.end()
	switch d.below(4) {
	case 0:
		y = x
	case 1:
		y = x + float64(d.below(5))/8
	}
	if z := read(iv(min(x, y), max(x, y))); z != empty {
		return z
	}
	return entire
}

// bounded tells one with small numbers as ends.
func (d *dice) bounded() api.Interval {
	x, y := d.small(), d.small()
	if d.below(3) == 0 {
		y = x + float64(d.below(5))/8
	}
	return read(iv(min(x, y), max(x, y)))
}

// uneven tells one with ends of many places.
func (d *dice) uneven() api.Interval {
	x, y := d.small()/3+0.1, d.small()/7-0.7
	return read(iv(min(x, y), max(x, y)))
}

// open tells an interval with small numbers as ends, and now and then an infinity.
func (d *dice) open() api.Interval {
	x := d.bounded()
	switch d.below(24) {
	case 0:
		x.Lo = -inf
	case 1:
		x.Hi = inf
	case 2:
		x = entire
	}
	return x
}

// wrongs are intervals that are not valid, though they can be read: most of them as Empty.
func wrongs() box {
	out := box{iv(2, 1), iv(least, 0), iv(least, signed), iv(0, -least), iv(inf, inf), iv(-inf, -inf), iv(1, -inf), iv(inf, 1), iv(greatest, -greatest),
		iv(signed, 1), iv(-1, signed), iv(signed, signed), iv(signed, 0), iv(0, signed), iv(-inf, signed), iv(signed, inf)}
	for _, bits := range []uint64{0x7ff8000000000001, 0x7ff0000000000001, 0x7fffffffffffffff, 0xfff8000000000000, 0xfff0000000000001} {
		x := math.Float64frombits(bits)
		out = append(out, iv(x, 1), iv(1, x), iv(x, x), iv(-inf, x), iv(x, inf))
	}
	return out
}

// valids are intervals that are valid as they stand, most of them with an edge to them.
func valids() box {
	return box{empty, entire, one(0), iv(1, 2), iv(-1, 0), iv(0, inf), iv(-inf, 0), iv(-inf, -greatest), iv(greatest, inf), iv(-greatest, greatest), one(least), iv(-least, 0), iv(-least, least)}
}

// wild tells an interval of any bits.
func (d *dice) wild() api.Interval {
	bits := func() float64 {
		return pick(d, math.Float64frombits(d.next()), d.end(), signed, 0, nan, inf, -inf)
	}
	return pick(d, iv(bits(), bits()), iv(bits(), bits()), d.interval(), pick(d, wrongs()...))
}

// part tells a part of a box that is seldom read as Empty.
func (d *dice) part() api.Interval {
	if d.below(40) == 0 {
		return pick(d, empty, iv(2, 1), iv(nan, 1), iv(signed, 1), iv(-1, signed))
	}
	return pick(d, d.bounded(), d.bounded(), d.uneven(), d.interval())
}

// within tells an interval that lies in another one, which is valid, and now and then just that one.
func (d *dice) within(x api.Interval) api.Interval {
	if x == empty {
		return empty
	}
	switch d.below(8) {
	case 0:
		return x
	case 1:
		return empty
	}
	a, b := d.number(x), d.number(x)
	y := iv(min(a, b), max(a, b))
	switch d.below(4) {
	case 0:
		y.Lo = x.Lo
	case 1:
		y.Hi = x.Hi
	case 2:
		y = one(a)
	}
	return y
}

// number tells an element of an interval that is valid and not Empty.
func (d *dice) number(x api.Interval) float64 {
	lo, hi := x.Lo, x.Hi
	if math.IsInf(lo, -1) {
		lo = max(-greatest, min(hi, 0)-100)
	}
	if math.IsInf(hi, 1) {
		hi = min(greatest, max(lo, 0)+100)
	}
	part := float64(d.below(9)) / 8
	return min(max(lo*(1-part)+hi*part, x.Lo), x.Hi) + 0
}

// Programs and goals.

// line tells a line of an operation that may stand at a place of a program, if one may.
func (d *dice) line(op, at, vars, consts int) (in api.Ins, ok bool) {
	in.Op = op
	for _, name := range uses(op) {
		below := vars + at
		switch {
		case name == 'N' && op == api.OpPown:
			in.N = pick(d, 2, 3, -1, -2, 0, 1, d.below(9)-4, d.below(9)-4, d.below(33)-16) // greater ones take their time
			continue
		case name == 'N':
			below = consts
		}
		if below == 0 {
			return in, false
		}
		n := d.below(below)
		if d.below(3) == 0 && name != 'N' {
			n = below - 1 - d.below(min(below, 3)) // what was made last
		}
		*field(&in, name) = n
	}
	return in, true
}

// program tells one with which nothing is wrong.
func (d *dice) program(vars, consts, lines int, constant func() api.Interval) api.Program {
	p := api.Program{Vars: vars, Consts: list(consts, constant)}
	for len(p.Code) < lines {
		if vars+consts == 0 && len(p.Code) == 0 {
			p.Consts, consts = box{constant()}, 1
		}
		if in, ok := d.line(pick(d, ops()...), len(p.Code), vars, consts); ok {
			p.Code = append(p.Code, in)
		}
	}
	return p
}

// over tells a small program over so many variables.
func (d *dice) over(vars int) api.Program {
	constant := pick(d, d.bounded, d.bounded, d.uneven, d.interval, func() api.Interval { return pick(d, valids()...) })
	return d.program(vars, d.below(4), 1+d.below(7), constant)
}

// aim tells a goal of a program: most often one that something of the box can meet.
func (d *dice) aim(p api.Program, b box) api.Goal {
	engine, _ := expr.New(p)
	y, _ := engine.Eval(b)
	if y == empty || d.below(8) == 0 {
		return api.Goal{P: p, C: pick(d, d.interval(), d.bounded(), entire)}
	}
	c := d.within(y)
	switch d.below(6) {
	case 0:
		c.Lo = -inf
	case 1:
		c.Hi = inf
	case 2:
		c.Hi += 1 // of some that reach to y's end this one reaches beyond it
	}
	return api.Goal{P: p, C: read(c)}
}

// modest tells a program whose powers are small, so that its reals can be followed; its roots are most
// often those of squares.
func (d *dice) modest(vars int) api.Program {
	p := d.program(vars, 1+d.below(3), 1+d.below(7), d.open)
	for at := range p.Code {
		in := &p.Code[at]
		if in.Op == api.OpPown {
			in.N = d.below(9) - 4
		}
		if in.Op == api.OpSqrt && at > 0 && d.below(3) > 0 {
			p.Code[at-1] = api.Ins{Op: api.OpSqr, A: p.Code[at-1].A}
			in.A = p.Vars + at - 1
		}
	}
	return p
}

// alone is a goal of one line over one variable; where the line has several operands, they are that one.
func alone(op, n int, c api.Interval) api.Goal {
	return api.Goal{P: api.Program{Vars: 1, Code: []api.Ins{{Op: op, N: n}}}, C: c}
}

// two is a goal of one line over two variables.
func two(op int, c api.Interval) api.Goal {
	return api.Goal{P: api.Program{Vars: 2, Code: []api.Ins{{Op: op, A: 0, B: 1}}}, C: c}
}

// goal is one of several lines.
func goal(vars int, consts box, c api.Interval, code ...api.Ins) api.Goal {
	return api.Goal{P: api.Program{Vars: vars, Consts: consts, Code: code}, C: c}
}

// unsure is a goal that every point meets, but of which nothing is sure: its program's value is any
// number from 0 to 1, which is to be 0. It makes no box narrower.
func unsure(vars int) api.Goal { return goal(vars, box{iv(0, 1)}, one(0), api.Ins{Op: api.OpConst}) }

// sure is a goal that every point meets, for sure.
func sure(vars int) api.Goal { return goal(vars, box{one(0)}, one(0), api.Ins{Op: api.OpConst}) }

// never is a goal that no point meets.
func never(vars int) api.Goal { return goal(vars, box{iv(0, 1)}, one(2), api.Ins{Op: api.OpConst}) }

// inPart is the goal that a variable lies in an interval.
func inPart(vars, v int, c api.Interval) api.Goal {
	return goal(vars, nil, c, api.Ins{Op: api.OpId, A: v})
}

// root2 is the goal that the square of the variable less 2 is 0.
func root2() api.Goal {
	return goal(1, box{one(2)}, one(0), api.Ins{Op: api.OpSqr}, api.Ins{Op: api.OpConst}, api.Ins{Op: api.OpSub, A: 1, B: 2})
}

// disc is the goal that a point of the plane lies at most so far from 0, and at least so far.
func disc(from, to float64) api.Goal {
	return goal(2, nil, iv(from*from, to*to), api.Ins{Op: api.OpSqr, A: 0}, api.Ins{Op: api.OpSqr, A: 1}, api.Ins{Op: api.OpAdd, A: 2, B: 3})
}

// far is a goal of a variable that is met nowhere; but over an interval from 0 on that is not seen, nor is
// the interval made narrower: x / x + x / x is to be 10.
func far(vars, v int) api.Goal {
	ratio := api.Ins{Op: api.OpDiv, A: v, B: v}
	return goal(vars, nil, one(10), ratio, ratio, api.Ins{Op: api.OpAdd, A: vars, B: vars + 1})
}
