package slope_test

import (
	"math/big"
	"testing"

	"verge/api"
	"verge/slope"
)

// P18.4 and W8, at points of the box.

// reach is the set of reals from one to another; nil stands for no end.
type reach struct{ lo, hi *big.Rat }

// reached tells what a distance makes of a slope that is not Empty.
func reached(s api.Interval, far *big.Rat) reach {
	if far.Sign() == 0 {
		return reach{new(big.Rat), new(big.Rat)}
	}
	var ends [2]*big.Rat
	for i, end := range []float64{s.Lo, s.Hi} {
		if end != inf && end != -inf {
			ends[i] = times(exactly(end), far)
		}
	}
	if far.Sign() < 0 {
		return reach{ends[1], ends[0]}
	}
	return reach{ends[0], ends[1]}
}

func together(v, w *big.Rat) *big.Rat {
	if v == nil || w == nil {
		return nil
	}
	return plus(v, w)
}

// sums tells whether a real is the sum of distances, each times an element of its slope.
func sums(v *big.Rat, slopes box, far []*big.Rat) bool {
	sum := reach{new(big.Rat), new(big.Rat)}
	for i, s := range slopes {
		if s == empty {
			return false
		}
		r := reached(s, far[i])
		sum = reach{together(sum.lo, r.lo), together(sum.hi, r.hi)}
	}
	return (sum.lo == nil || sum.lo.Cmp(v) <= 0) && (sum.hi == nil || sum.hi.Cmp(v) >= 0)
}

// told is what the calls say of a program over a box.
type told struct {
	value, mean api.Interval
	slopes      box
}

func say(t *testing.T, p api.Program, b box) told {
	t.Helper()
	value, slopes, e := slope.Slopes(p, b)
	mean, err := slope.MeanValue(p, b)
	if e != api.OK || err != api.OK || len(slopes) != p.Vars {
		t.Fatalf("%s; %v: %d, %d, %v", shown(p), b, e, err, slopes)
	}
	return told{value, mean, slopes}
}

// apart holds two traces against the slopes.
func (w told) apart(t *testing.T, p api.Program, a, b []*big.Rat, ya, yb *big.Rat) {
	t.Helper()
	var far []*big.Rat
	for i := range a {
		far = append(far, plus(a[i], minus(b[i])))
	}
	if !sums(plus(ya, minus(yb)), w.slopes, far) {
		t.Errorf("%s: at %v %v, at %v %v, the slopes are %v", shown(p), a, ya, b, yb, w.slopes)
	}
}

// Two points and the slopes, one point and MeanValue's answer.
func TestTracesAtPoints(t *testing.T) {
	d := dice(18040)
	pairs, narrow, points := 0, 0, 0
	for range 5000 {
		p := d.modest()
		b := list(p.Vars, d.open)
		w := say(t, p, b)
		for range 3 {
			taken := d.taken(p)
			var last []*big.Rat
			var value *big.Rat
			for range 4 {
				point := d.point(b)
				y := followed(p, point, taken)
				if y == nil {
					continue
				}
				points++
				if !within(y, w.mean) {
					t.Errorf("%s: at %v %v, MeanValue says %v", shown(p), point, y, w.mean)
				}
				if w.mean != w.value {
					narrow++
				}
				if value != nil {
					pairs++
					w.apart(t, p, point, last, y, value)
					w.apart(t, p, last, point, value, y)
				}
				last, value = point, y
			}
		}
	}
	if points < 20000 || pairs < 12000 || narrow < 1000 {
		t.Errorf("only %d points, %d pairs, %d of a mean that says more", points, pairs, narrow)
	}
}

// A zero and Newton's answer: what a program makes of a point is taken away from it.
func TestZeros(t *testing.T) {
	d := dice(18041)
	zeros, cut := 0, 0
	for range 5000 {
		p := d.modest()
		b := list(p.Vars, d.open)
		taken := d.taken(p)
		point := d.point(b)
		y := followed(p, point, taken)
		if y == nil {
			continue
		}
		zero := copied(p)
		last := p.Vars + len(p.Code) - 1
		zero.Consts = append(zero.Consts, about(y))
		zero.Code = append(zero.Code, api.Ins{Op: api.OpConst, N: len(p.Consts)}, api.Ins{Op: api.OpSub, A: last, B: last + 1})
		zeros++
		for part, x := range b {
			left, e := slope.Newton(zero, b, part)
			if e != api.OK || !within(point[part], left) || left.Lo < x.Lo || left.Hi > x.Hi {
				t.Errorf("%s: 0 at %v, Newton of the part %d of %v says %v, %d", shown(zero), point, part, b, left, e)
			}
			if left != x {
				cut++
			}
		}
	}
	if zeros < 1500 || cut < 500 {
		t.Errorf("only %d zeros, %d parts that were cut", zeros, cut)
	}
}

// What Newton leaves lies in the part, whatever comes.
func TestNewtonStaysInThePart(t *testing.T) {
	d := dice(18042)
	for range 6000 {
		p := d.any()
		b := list(p.Vars, d.wild)
		for part, x := range b {
			left, e := slope.Newton(p, b, part)
			x = read(x)
			if e != api.OK || !right(left) || left != empty && (left.Lo < x.Lo || left.Hi > x.Hi) {
				t.Errorf("%s; %x: Newton of the part %d says %x, %d", shown(p), b, part, left, e)
			}
		}
		w := say(t, p, b)
		if w.mean != empty && (w.mean.Lo < w.value.Lo || w.mean.Hi > w.value.Hi) {
			t.Errorf("%s; %x: MeanValue says %x, Eval %x", shown(p), b, w.mean, w.value)
		}
	}
}

// Roots that are no ratios: by how much they part, times the sum of the two, is how far the points do.
func TestRootsAtPoints(t *testing.T) {
	d := dice(18043)
	p := alone(api.OpSqrt, 0)
	exact := func(x float64) *big.Float { return new(big.Float).SetPrec(400).SetFloat64(x) }
	for range 3000 {
		a, b := d.small(), d.small()
		a, b = min(a*a, b*b), max(a*a, b*b)
		if d.below(4) == 0 {
			a, b = a*0.1, b*0.3
		}
		if a >= b {
			continue
		}
		w := say(t, p, box{iv(a, b)})
		sum := new(big.Float).Add(new(big.Float).Sqrt(exact(a)), new(big.Float).Sqrt(exact(b)))
		s := w.slopes[0]
		if low := new(big.Float).Mul(exact(s.Lo), sum); low.Cmp(exact(1)) > 0 {
			t.Errorf("the roots of %g and %g: the slope is %v", a, b, s)
		}
		if high := new(big.Float).Mul(exact(s.Hi), sum); high.Cmp(exact(1)) < 0 {
			t.Errorf("the roots of %g and %g: the slope is %v", a, b, s)
		}
	}
}

// Zeros that are no numbers: the root of 2, found by Newton's steps.
func TestNewtonFindsTheRoot(t *testing.T) {
	p := squared(api.OpSub, 2)
	square := func(x float64) *big.Rat { return times(exactly(x), exactly(x)) }
	x := iv(1, 2)
	for range 8 {
		left, e := slope.Newton(p, box{x}, 0)
		if e != api.OK || square(left.Lo).Cmp(whole(2)) > 0 || square(left.Hi).Cmp(whole(2)) < 0 {
			t.Fatalf("Newton over %v says %v, %d", x, left, e)
		}
		x = left
	}
	if x != iv(0x1.6a09e667f3bccp+0, 0x1.6a09e667f3bcdp+0) {
		t.Errorf("the root of 2 lies in %v", x)
	}
}
