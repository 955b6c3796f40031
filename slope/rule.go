package slope

import (
	"verge/api"
	"verge/ival"
	"verge/power"
	"verge/rel"
)

// rule tells a line's slope for a variable, of the slopes that its first, second and third operand have
// for it.
type rule func(s, s2, s3 api.Interval) api.Interval

// ruleOf tells a line's rule; u and u2 are the values of its first and its second operand, w is its own.
// What is the same for all variables is worked out once.
func ruleOf(in api.Ins, u, u2, w api.Interval) rule {
	switch in.Op {
	case api.OpConst:
		return func(_, _, _ api.Interval) api.Interval { return number(0) }
	case api.OpId:
		return first
	case api.OpNeg:
		return func(s, _, _ api.Interval) api.Interval { return ival.Neg(s) }
	case api.OpAdd:
		return func(s, s2, _ api.Interval) api.Interval { return ival.Add(s, s2) }
	case api.OpSub:
		return func(s, s2, _ api.Interval) api.Interval { return ival.Sub(s, s2) }
	case api.OpMul:
		return func(s, s2, _ api.Interval) api.Interval { return product(u, u2, s, s2) }
	case api.OpFMA:
		return func(s, s2, s3 api.Interval) api.Interval { return ival.Add(product(u, u2, s, s2), s3) }
	case api.OpDiv:
		return func(s, s2, _ api.Interval) api.Interval { return ival.Div(ival.Sub(s, ival.Mul(w, s2)), u2) }
	case api.OpMin:
		return eitherOf(rel.Precedes(u, u2), rel.Precedes(u2, u))
	case api.OpMax:
		return eitherOf(rel.Precedes(u2, u), rel.Precedes(u, u2))
	}
	k := factor(in, u, w)
	return func(s, _, _ api.Interval) api.Interval { return ival.Mul(k, s) }
}

func first(s, _, _ api.Interval) api.Interval { return s }

func second(_, s2, _ api.Interval) api.Interval { return s2 }

func both(s, s2, _ api.Interval) api.Interval { return rel.Hull(s, s2) }

func product(u, u2, s, s2 api.Interval) api.Interval {
	return ival.Add(ival.Mul(u, s2), ival.Mul(u2, s))
}

// eitherOf tells the rule of an operation whose value is one of its operands, by whether that is always
// the first one, or always the second one.
func eitherOf(isFirst, isSecond bool) rule {
	switch {
	case isFirst:
		return first
	case isSecond:
		return second
	}
	return both
}

// factor tells by what the slopes of an operation's one operand are multiplied.
func factor(in api.Ins, u, w api.Interval) api.Interval {
	switch in.Op {
	case api.OpSqr:
		return ival.Add(u, u)
	case api.OpRecip:
		return ival.Neg(ival.Recip(ival.Mul(u, u)))
	case api.OpSqrt:
		return rootFactor(w)
	case api.OpPown:
		return powerFactor(u, in.N)
	case api.OpAbs:
		return sizeFactor(u)
	}
	return stepFactor(w)
}

func rootFactor(w api.Interval) api.Interval {
	if w == number(0) {
		return number(0)
	}
	return ival.Recip(ival.Add(w, w))
}

func powerFactor(u api.Interval, n int) api.Interval {
	if n == 0 {
		return number(0)
	}
	m := max(n, -n)
	rise := ival.Mul(number(float64(m)), power.Pown(u, m-1))
	if n > 0 {
		return rise
	}
	p := power.Pown(u, m)
	return ival.Neg(ival.Div(rise, ival.Mul(p, p)))
}

func sizeFactor(u api.Interval) api.Interval {
	switch {
	case u.Lo >= 0:
		return number(1)
	case u.Hi <= 0:
		return number(-1)
	}
	return api.Interval{Lo: -1, Hi: 1}
}

func stepFactor(w api.Interval) api.Interval {
	if rel.IsSingleton(w) {
		return number(0)
	}
	return ival.Entire()
}

// number tells the interval of one number.
func number(x float64) api.Interval { return api.Interval{Lo: x, Hi: x} }
