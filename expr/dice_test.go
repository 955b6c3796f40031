package expr_test

import (
	"math"
	"slices"

	"verge/api"
)

// What the tests hand in.

// dice are numbers that look like chance, the same at every run.
type dice uint64

func (d *dice) next() uint64 {
	*d ^= *d << 13
	*d ^= *d >> 7
	*d ^= *d << 17
	return uint64(*d) * 0x2545f4914f6cdd1d
}

func (d *dice) below(n int) int { return int(d.next() >> 1 % uint64(n)) }

func pick[T any](d *dice, l ...T) T { return l[d.below(len(l))] }

// list tells n things, each told by tell.
func list[T any](n int, tell func() T) []T {
	out := make([]T, n)
	for i := range out {
		out[i] = tell()
	}
	return out
}

// small tells numbers of few places.
func (d *dice) small() float64 { return math.Ldexp(float64(d.below(33)-16), -d.below(4)) }

// end tells numbers, most of them small, infinities, and numbers on which much hangs.
func (d *dice) end() float64 {
	switch d.below(10) {
	case 0:
		return pick(d, -inf, inf)
	case 1:
		return pick(d, least, -least, 0x1p-1022, 0x1p-537, 0.1, 1./3, 0x1p53, -0x1p512, 0x1p1023, greatest, -greatest)
	case 2:
		return math.Ldexp(float64(d.next()>>11), -1074+d.below(2046)) * pick(d, -1.0, 1)
	}
	return d.small()
}

// interval tells one that is not Empty.
func (d *dice) interval() api.Interval {
	x, y := d.end(), d.end()
	switch d.below(4) {
	case 0:
		y = x
	case 1:
		y = x + float64(d.below(5))/8
	}
	if z := read(iv(min(x, y), max(x, y))); z != empty {
		return z
	}
	return entire
}

// bounded tells one with small numbers as ends.
func (d *dice) bounded() api.Interval {
	x, y := d.small(), d.small()
	if d.below(3) == 0 {
		y = x + float64(d.below(5))/8
	}
	return read(iv(min(x, y), max(x, y)))
}

// wrongs are intervals that are not valid, though they can be read: most of them as Empty.
func wrongs() box {
	out := box{iv(2, 1), iv(least, 0), iv(least, signed), iv(0, -least), iv(inf, inf), iv(-inf, -inf), iv(1, -inf), iv(inf, 1), iv(inf, 0), iv(greatest, -greatest),
		iv(signed, 1), iv(-1, signed), iv(signed, signed), iv(signed, 0), iv(0, signed), iv(-inf, signed), iv(signed, inf)}
	for _, x := range nans() {
		out = append(out, iv(x, 1), iv(1, x), iv(x, x), iv(-inf, x), iv(x, inf), iv(x, -inf), iv(inf, x))
	}
	return out
}

// nans are NaNs of many bits: quiet, signalling, of either sign.
func nans() []float64 {
	var out []float64
	for _, bits := range []uint64{0x7ff8000000000001, 0x7ff8000000000000, 0x7ff0000000000001, 0x7fffffffffffffff, 0xfff8000000000000, 0xfff0000000000001, 0xffffffffffffffff} {
		out = append(out, math.Float64frombits(bits))
	}
	return out
}

// valids are intervals that are valid as they stand.
func valids() box {
	return box{empty, entire, iv(0, 0), iv(1, 2), iv(-1, 0), iv(0, inf), iv(-inf, 0), iv(-inf, -greatest), iv(greatest, inf), iv(-greatest, greatest), iv(least, least), iv(-least, 0)}
}

// wild tells an interval of any bits.
func (d *dice) wild() api.Interval {
	bits := func() float64 {
		return pick(d, math.Float64frombits(d.next()), d.end(), signed, 0, nan, inf, -inf)
	}
	return pick(d, iv(bits(), bits()), iv(bits(), bits()), d.interval(), pick(d, wrongs()...))
}

// part tells a part of a box that is seldom read as Empty.
func (d *dice) part() api.Interval {
	if d.below(40) == 0 {
		return pick(d, empty, iv(2, 1), iv(nan, 1), iv(signed, 1), iv(-1, signed))
	}
	return pick(d, d.bounded(), d.bounded(), d.interval())
}

func ranks() []int { return []int{api.Com, api.Dac, api.Def, api.Trv} }

// strays are numbers of decorations that are none, and Ill.
func strays() []int {
	return []int{api.Ill, math.MinInt, -16, -4, -1, 1, 3, 5, 7, 9, 11, 13, 15, 17, 20, 32, 256 + 16, 1<<16 + 16, math.MaxInt}
}

// ills are decorated ones that are read as NaI.
func ills() []api.Deco {
	out := []api.Deco{nai, {X: entire, D: -4}, {X: empty, D: math.MinInt}, {X: empty, D: 20}}
	for _, d := range strays() {
		out = append(out, dv(1, 2, d))
	}
	for _, x := range wrongs() {
		if read(x) == empty {
			out = append(out, api.Deco{X: x, D: api.Com}, api.Deco{X: x, D: api.Trv})
		}
	}
	return out
}

// strange tells one of any bits, with a decoration that may be none.
func (d *dice) strange() api.Deco {
	return api.Deco{X: d.wild(), D: pick(d, append(strays(), ranks()...)...)}
}

// dressed tells a box of decorated intervals, none of which is read as NaI by its decoration.
func (d *dice) dressed(b box) []api.Deco {
	var out []api.Deco
	for _, x := range b {
		out = append(out, api.Deco{X: x, D: pick(d, api.Com, api.Com, api.Com, api.Dac, api.Def, api.Trv)})
	}
	return out
}

// Programs.

// line tells a line of an operation that may stand at a place of a program, if one may.
func (d *dice) line(op, at, vars, consts int) (in api.Ins, ok bool) {
	in.Op = op
	for _, name := range uses(op) {
		below := vars + at
		switch {
		case name == 'N' && op == api.OpPown:
			in.N = pick(d, 2, 3, -1, -2, 0, 1, d.below(9)-4, d.below(2049)-1024, 1024, -1024)
			continue
		case name == 'N':
			below = consts
		}
		if below == 0 {
			return in, false
		}
		n := d.below(below)
		if d.below(3) == 0 && name != 'N' {
			n = below - 1 - d.below(min(below, 3)) // what was made last
		}
		*field(&in, name) = n
	}
	return in, true
}

// program tells one with which nothing is wrong.
func (d *dice) program(vars, consts, lines int, constant func() api.Interval) api.Program {
	p := api.Program{Vars: vars, Consts: list(consts, constant)}
	for len(p.Code) < lines {
		if vars+consts == 0 && len(p.Code) == 0 {
			p.Consts, consts = box{constant()}, 1
		}
		if in, ok := d.line(pick(d, ops()...), len(p.Code), vars, consts); ok {
			p.Code = append(p.Code, in)
		}
	}
	return p
}

// any tells a small program with which nothing is wrong.
func (d *dice) any() api.Program {
	constant := pick(d, d.bounded, d.interval, func() api.Interval { return pick(d, valids()...) })
	return d.program(d.below(4), d.below(4), 1+d.below(7), constant)
}

// copied tells the same program in memory of its own.
func copied(p api.Program) api.Program {
	return api.Program{Vars: p.Vars, Consts: slices.Clone(p.Consts), Code: slices.Clone(p.Code)}
}

// root is the program of the chapter's examples: the root of x y, and x.
func root() api.Program {
	return api.Program{Vars: 2, Code: []api.Ins{{Op: api.OpMul, A: 0, B: 1}, {Op: api.OpSqrt, A: 2}, {Op: api.OpAdd, A: 3, B: 0}}}
}

// sums tells a program of so many lines, each of which adds the last value and a variable.
func sums(vars, lines int) api.Program {
	p := api.Program{Vars: vars}
	for at := range lines {
		p.Code = append(p.Code, api.Ins{Op: api.OpAdd, A: vars + at - 1, B: at % vars})
	}
	return p
}

// fixed tells a program of so many constants and lines, without variables.
func fixed(consts, lines int) api.Program {
	p := api.Program{}
	for i := range consts {
		p.Consts = append(p.Consts, iv(float64(i), float64(i+1)))
	}
	for at := range lines {
		p.Code = append(p.Code, api.Ins{Op: api.OpConst, N: at % consts})
	}
	return p
}

// samples are programs whose bytes have all there can be: each operation, operands of two bytes, no
// constants and many, powers above and below 0, no variables and all.
func samples() []api.Program {
	d := dice(16000)
	each := api.Program{Vars: 2, Consts: box{iv(1, 2), empty, entire, iv(-inf, 0)}}
	for _, op := range ops() {
		in, _ := d.line(op, len(each.Code), 2, 4)
		each.Code = append(each.Code, in)
	}
	powers := api.Program{Vars: 1}
	for _, n := range []int{0, 1, -1, 2, 255, 256, 257, -255, -256, -257, 1023, 1024, -1023, -1024} {
		powers.Code = append(powers.Code, api.Ins{Op: api.OpPown, A: 0, N: n})
	}
	late := sums(32, 300)
	late.Code = append(late.Code, api.Ins{Op: api.OpFMA, A: 0, B: 331, C: 256}, api.Ins{Op: api.OpMin, A: 255, B: 257})
	return []api.Program{root(), each, powers, late, fixed(1, 1), fixed(256, 1), fixed(256, 257), sums(1, 1), sums(32, 1024), fixed(257-1, 1024),
		{Vars: 32, Consts: box{iv(1, 1)}, Code: []api.Ins{{Op: api.OpFMA, A: 31, B: 0, C: 31}}}}
}
