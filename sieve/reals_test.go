package sieve_test

import (
	"math"
	"math/big"

	"verge/api"
)

// Traces in reals, as ratios of whole numbers.

// within tells whether a real is an element.
func within(v *big.Rat, x api.Interval) bool { return order(x.Lo, v) <= 0 && order(x.Hi, v) >= 0 }

// order tells -1, 0, 1, as an end lies below a real, at it, above it.
func order(end float64, v *big.Rat) int {
	switch end {
	case -inf:
		return -1
	case inf:
		return 1
	}
	return exactly(end).Cmp(v)
}

// element tells one of an interval: an end of it, the middle, or something between.
func (d *dice) element(x api.Interval) *big.Rat {
	if math.IsInf(x.Lo, -1) {
		x.Lo = min(x.Hi, 0) - 1000
	}
	if math.IsInf(x.Hi, 1) {
		x.Hi = max(x.Lo, 0) + 1000
	}
	lo, hi := exactly(x.Lo), exactly(x.Hi)
	part := big.NewRat(int64(pick(d, 0, 0, 12, 12, 6, 3, 1, d.below(13))), 12)
	return lo.Add(lo, part.Mul(part, hi.Sub(hi, lo)))
}

// point tells one of a box.
func (d *dice) point(b box) []*big.Rat {
	var out []*big.Rat
	for _, x := range b {
		out = append(out, d.element(x))
	}
	return out
}

// taken tells an element of its constant for each line that is one.
func (d *dice) taken(p api.Program) []*big.Rat {
	out := make([]*big.Rat, len(p.Code))
	for at, in := range p.Code {
		if in.Op == api.OpConst {
			out[at] = d.element(p.Consts[in.N])
		}
	}
	return out
}

func whole(n int) *big.Rat { return big.NewRat(int64(n), 1) }

func exactly(x float64) *big.Rat { return new(big.Rat).SetFloat64(x) }

func floorOf(v *big.Rat) *big.Rat {
	return new(big.Rat).SetInt(new(big.Int).Div(v.Num(), v.Denom())) // big.Int's Div leaves a rest from 0 on
}

func minus(v *big.Rat) *big.Rat { return new(big.Rat).Neg(v) }

func plus(v, w *big.Rat) *big.Rat { return new(big.Rat).Add(v, w) }

func times(v, w *big.Rat) *big.Rat { return new(big.Rat).Mul(v, w) }

func lesser(v, w *big.Rat) *big.Rat {
	if v.Cmp(w) < 0 {
		return v
	}
	return w
}

// nearestOf tells the whole number nearest to a real; of two, if even, that one, else the one farther
// from 0.
func nearestOf(v *big.Rat, even bool) *big.Rat {
	half := big.NewRat(1, 2)
	size := new(big.Rat).Abs(v)
	n := floorOf(plus(size, half))
	if even && plus(size, half).Cmp(n) == 0 && n.Num().Bit(0) == 1 {
		n = plus(n, whole(-1))
	}
	return times(n, whole(v.Sign()))
}

// ratio tells nil, where there is none.
func ratio(v, w *big.Rat) *big.Rat {
	if w.Sign() == 0 {
		return nil
	}
	return new(big.Rat).Quo(v, w)
}

func powerOf(v *big.Rat, n int) *big.Rat {
	out := whole(1)
	for range max(n, -n) {
		out = times(out, v)
	}
	if n < 0 {
		return ratio(whole(1), out)
	}
	return out
}

// rooted tells the root of a real, if there is one and it is a ratio of whole numbers; else nil.
func rooted(v *big.Rat) *big.Rat {
	if v.Sign() < 0 {
		return nil
	}
	num, den := new(big.Int).Sqrt(v.Num()), new(big.Int).Sqrt(v.Denom())
	r := new(big.Rat).SetFrac(num, den)
	if times(r, r).Cmp(v) != 0 {
		return nil
	}
	return r
}

// done tells what an operation makes of reals; nil, where it is not defined, or makes no ratio.
func done(in api.Ins, v ...*big.Rat) *big.Rat {
	switch in.Op {
	case api.OpId:
		return v[0]
	case api.OpNeg:
		return minus(v[0])
	case api.OpAdd:
		return plus(v[0], v[1])
	case api.OpSub:
		return plus(v[0], minus(v[1]))
	case api.OpMul:
		return times(v[0], v[1])
	case api.OpFMA:
		return plus(times(v[0], v[1]), v[2])
	case api.OpDiv:
		return ratio(v[0], v[1])
	case api.OpRecip:
		return ratio(whole(1), v[0])
	case api.OpSqr:
		return times(v[0], v[0])
	case api.OpSqrt:
		return rooted(v[0])
	case api.OpPown:
		return powerOf(v[0], in.N)
	}
	return bent(in.Op, v...)
}

func bent(op int, v ...*big.Rat) *big.Rat {
	switch op {
	case api.OpAbs:
		return new(big.Rat).Abs(v[0])
	case api.OpMin:
		return lesser(v[0], v[1])
	case api.OpMax:
		return minus(lesser(minus(v[0]), minus(v[1])))
	case api.OpSign:
		return whole(v[0].Sign())
	case api.OpFloor:
		return floorOf(v[0])
	case api.OpCeil:
		return minus(floorOf(minus(v[0])))
	case api.OpTrunc:
		return times(floorOf(new(big.Rat).Abs(v[0])), whole(v[0].Sign()))
	}
	return nearestOf(v[0], op == api.OpRoundEven)
}

// followed tells the last real of the trace at a point, with those elements of the constants; nil, where
// none: there is no trace, or else one of its reals is not a ratio of whole numbers, or too long.
func followed(p api.Program, point, taken []*big.Rat) (last *big.Rat, none bool) {
	values := append([]*big.Rat{}, point...)
	for at, in := range p.Code {
		y := taken[at]
		if in.Op != api.OpConst {
			var v []*big.Rat
			for _, name := range uses(in.Op) {
				if name != 'N' {
					v = append(v, values[*field(&in, name)])
				}
			}
			y = done(in, v...)
			if y == nil {
				return nil, in.Op != api.OpSqrt || v[0].Sign() < 0
			}
		}
		if y.Num().BitLen()+y.Denom().BitLen() > 3000 {
			return nil, false
		}
		values = append(values, y)
	}
	return values[len(values)-1], false
}

// about tells the least interval that holds a real.
func about(v *big.Rat) api.Interval {
	near, _ := v.Float64()
	x := one(near + 0)
	if order(near, v) > 0 {
		x.Lo = math.Nextafter(near, -inf)
	} else if order(near, v) < 0 {
		x.Hi = math.Nextafter(near, inf)
	}
	return x
}
