package infix

import (
	"verge/api"
	"verge/digits"
	"verge/lit"
)

// maker makes a program's lines.
type maker struct {
	p      api.Program
	stands []int // the operands that the known names stand for, by their numbers
}

// made tells the program of the sums of a formula.
func made(vars int, sums []part) api.Program {
	m := maker{p: api.Program{Vars: vars}}
	for i := range vars {
		m.stands = append(m.stands, i)
	}
	for _, x := range sums {
		m.stands = append(m.stands, m.operand(x))
	}
	last := m.stands[len(m.stands)-1]
	if last < vars || last != vars+len(m.p.Code)-1 {
		m.line(api.Ins{Op: api.OpId, A: last})
	}
	return m.p
}

// line makes a line, and tells the operand that it is.
func (m *maker) line(in api.Ins) int {
	m.p.Code = append(m.p.Code, in)
	return m.p.Vars + len(m.p.Code) - 1
}

func (m *maker) constant(x api.Interval) int {
	m.p.Consts = append(m.p.Consts, x)
	return m.line(api.Ins{Op: api.OpConst, N: len(m.p.Consts) - 1})
}

// operand makes the lines of a part, and tells the operand that it is.
func (m *maker) operand(x part) int {
	var in api.Ins
	switch x := x.(type) {
	case named:
		return m.stands[x]
	case numeral:
		return m.constant(aboutNumeral(string(x)))
	case literal:
		held, _, _ := lit.Read(string(x))
		return m.constant(held)
	case chain:
		return m.joined(x)
	case power:
		in = api.Ins{Op: api.OpPown, A: m.operand(x.base), N: x.n}
	case call:
		in.Op = x.op
		places := [...]*int{&in.A, &in.B, &in.C}
		for i, y := range x.of {
			*places[i] = m.operand(y)
		}
	}
	return m.line(in)
}

func (m *maker) joined(c chain) int {
	left := m.operand(c.first)
	for _, l := range c.rest {
		right := m.operand(l.to)
		left = m.line(api.Ins{Op: l.op, A: left, B: right})
	}
	return left
}

// aboutNumeral tells the least interval that holds a numeral's number.
func aboutNumeral(text string) api.Interval {
	lo, _, _ := digits.Read(api.Down, text)
	hi, _, _ := digits.Read(api.Up, text)
	return api.Interval{Lo: lo, Hi: hi}
}
