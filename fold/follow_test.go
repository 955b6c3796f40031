package fold_test

import (
	"math"
	"slices"
	"testing"

	"verge/api"
	"verge/fold"
	"verge/ival"
	"verge/power"
	"verge/total"
)

// P15.3: what follows, for each number of workers.

// lone tells the answer of one worker, against which the others are held.
func (c call) lone(t *testing.T, a, b list) api.Interval {
	t.Helper()
	x, err := c.ask(a, b, 1)
	if err != api.OK {
		t.Errorf("%s(%s, %s, 1): error %d", c.name, shown(a), shown(b), err)
	}
	return x
}

func (c call) everyCrewGives(t *testing.T, want api.Interval, a, b list) {
	t.Helper()
	for _, w := range everyCrew() {
		x, err := c.ask(a, b, w)
		is(t, x, want, "%s(%s, %s, %d)", c.name, shown(a), shown(b), w)
		if err != api.OK {
			t.Errorf("%s(%s, %s, %d): error %d", c.name, shown(a), shown(b), w, err)
		}
	}
}

// shuffledPair tells two lists in another order, the same for both.
func (d *dice) shuffledPair(a, b list) (list, list) {
	a, b = slices.Clone(a), slices.Clone(b)
	for i := range a {
		j := i + d.below(len(a)-i)
		a[i], a[j] = a[j], a[i]
		b[i], b[j] = b[j], b[i]
	}
	return a, b
}

func TestOrderAndWorkersPlayNoPart(t *testing.T) {
	d := dice(15030)
	for _, n := range []int{1, 2, 3, 10, 17, 40, 256, 257, 700, 2000} {
		for _, tell := range []func() api.Interval{d.interval, d.bounded, d.point, d.near, d.wild} {
			a, b := d.list(n, tell), d.list(n, tell)
			for _, c := range calls() {
				want := c.lone(t, a, b)
				c.everyCrewGives(t, want, a, b)
				for range 2 {
					x, y := d.shuffledPair(a, b)
					got, err := c.ask(x, y, 1+d.below(16))
					is(t, got, want, "%s(%s, %s), in another order", c.name, shown(a), shown(b))
					if err != api.OK {
						t.Errorf("%s(%s, %s): error %d", c.name, shown(x), shown(y), err)
					}
				}
			}
			slices.Reverse(a)
			slices.Reverse(b)
			checkAll(t, a, b, 3)
		}
	}
}

// Dot's two lists may be changed about.
func TestDotEitherWay(t *testing.T) {
	d := dice(15031)
	for range 300 {
		n := d.below(12)
		tell := pick(&d, d.interval, d.near, d.wild)
		a, b := d.list(n, tell), d.list(n, tell)
		x, _ := fold.Dot(a, b, 3)
		y, _ := fold.Dot(b, a, 5)
		is(t, x, y, "Dot(%s, %s), and the other way round", shown(a), shown(b))
	}
}

// ofSums tells the interval of what end tells of a sum, rounded down and up.
func ofSums(end func(d int) float64) api.Interval { return iv(end(api.Down), end(api.Up)) }

func sumOf(l []float64, take func(s *total.Sum, x float64)) *total.Sum {
	s := total.New()
	for _, x := range l {
		take(s, x)
	}
	return s
}

func TestNumbersAsTotalSays(t *testing.T) {
	d := dice(15032)
	for n := range 300 {
		var l, m []float64
		for range n {
			l, m = append(l, d.number()), append(m, d.number())
			if d.below(3) == 0 {
				l[len(l)-1] = pick(&d, 0, signed, 1, -1, least, greatest, -greatest, l[0])
			}
		}
		sum := sumOf(l, (*total.Sum).Add)
		squares := sumOf(l, func(s *total.Sum, x float64) { s.Mul(x, x) })
		a, b := points(l...), points(m...)
		gives(t, "Sum", ofSums(func(d int) float64 { return total.Total(d, l) }), a)
		gives(t, "Abs", ofSums(func(d int) float64 { return total.Abs(d, l) }), a)
		gives(t, "Squares", ofSums(func(d int) float64 { return total.Squares(d, l) }), a)
		gives(t, "Norm2", ofSums(squares.Root), a)
		gives(t, "Dot", ofSums(func(d int) float64 { x, _ := total.Dot(d, l, m); return x }), a, b...)
		if n > 0 {
			gives(t, "Mean", ofSums(func(d int) float64 { return sum.Over(d, n) }), a)
		}
	}
}

// some hands out all pairs of ends, and others by chance, wrong ones among them.
func some(d dice, times int, try func(x api.Interval)) {
	for _, x := range append(nans(), ends()...) {
		for _, y := range append(nans(), ends()...) {
			try(iv(x, y))
		}
	}
	for range times {
		try(d.interval())
		try(d.wild())
		try(d.near())
	}
}

func TestOfOne(t *testing.T) {
	some(15033, 300, func(x api.Interval) {
		gives(t, "Sum", asRead(x), list{x})
		gives(t, "Sum", ival.Read(x), list{x})
		gives(t, "Mean", asRead(x), list{x})
		gives(t, "Abs", power.Abs(x), list{x})
		gives(t, "Norm2", power.Abs(x), list{x})
		gives(t, "Squares", ival.Sqr(x), list{x})
	})
}

func TestDotOfOneAndOne(t *testing.T) {
	d := dice(15034)
	some(15035, 300, func(x api.Interval) {
		for _, y := range []api.Interval{d.interval(), d.wild(), d.near(), iv(-1, 1), entire, pt(0), iv(0, inf), x} {
			w := 1 + d.below(16)
			got, err := fold.Dot(list{x}, list{y}, w)
			is(t, got, ival.Mul(x, y), "Dot((%x), (%x), %d)", x, y, w)
			if err != api.OK {
				t.Errorf("Dot((%x), (%x), %d): error %d", x, y, w, err)
			}
		}
	})
}

// liesIn tells whether an answer lies in another one.
func liesIn(inner, outer api.Interval) bool {
	return inner == empty || outer.Lo <= inner.Lo && inner.Hi <= outer.Hi
}

func TestDotOfTwoAndTwo(t *testing.T) {
	d := dice(15036)
	for range 3000 {
		tell := pick(&d, d.interval, d.near, d.bounded, d.wild, d.point)
		a, b := d.list(2, tell), d.list(2, tell)
		x, _ := fold.Dot(a, b, 1+d.below(16))
		if y := ival.FMA(a[0], b[0], ival.Mul(a[1], b[1])); !liesIn(x, y) {
			t.Errorf("Dot(%s, %s) = %x, which does not lie in %x", shown(a), shown(b), x, y)
		}
		p, q := float64(d.below(1<<20))*pick(&d, -1.0, 1), math.Ldexp(float64(d.below(1<<30)), d.below(900)-450)
		a[1], b[1] = pt(p), pt(q)
		gives(t, "Dot", ival.FMA(a[0], b[0], pt(p*q)), a, b...)
	}
}

// The mean lies in the hull of the list's intervals.
func TestMeanLiesInTheHull(t *testing.T) {
	d := dice(15037)
	for run := range 2000 {
		l := d.list(1+d.below(9), pick(&d, d.interval, d.near, d.bounded, d.point))
		if run%7 == 0 {
			l = slices.Repeat(list{l[0]}, 1+d.below(600))
		}
		hull := asRead(l[0])
		for _, x := range l {
			hull = iv(min(hull.Lo, x.Lo), max(hull.Hi, x.Hi))
		}
		for _, w := range []int{1, 1 + run%16} {
			x, err := fold.Mean(l, w)
			if x == empty || !liesIn(x, hull) || err != api.OK {
				t.Errorf("Mean(%s, %d) = %x, %d, which does not lie in %x", shown(l), w, x, err, hull)
			}
		}
		if run%7 == 0 {
			gives(t, "Mean", asRead(l[0]), l)
		}
	}
}

// grown tells an interval that holds x.
func (d *dice) grown(x api.Interval) api.Interval {
	if x = asRead(x); x == empty {
		return d.interval()
	}
	y := d.interval()
	return pick(d, x, iv(math.Nextafter(x.Lo, -inf), x.Hi), iv(x.Lo, math.Nextafter(x.Hi, inf)), iv(min(x.Lo, y.Lo), max(x.Hi, y.Hi)))
}

func TestGrows(t *testing.T) {
	d := dice(15038)
	for run := range 1500 {
		n := 1 + d.below(9)
		if run%50 == 0 {
			n = 600
		}
		tell := pick(&d, d.interval, d.near, d.bounded, d.point, d.wild)
		a, b := d.list(n, tell), d.list(n, tell)
		var moreA, moreB list
		for i := range a {
			moreA, moreB = append(moreA, d.grown(a[i])), append(moreB, d.grown(b[i]))
		}
		for _, c := range calls() {
			inner, _ := c.ask(a, b, 1+d.below(16))
			outer, _ := c.ask(moreA, moreB, 1+d.below(16))
			if !liesIn(inner, outer) {
				t.Errorf("%s(%s, %s) = %x, of greater ones %x", c.name, shown(a), shown(b), inner, outer)
			}
		}
	}
}

// W4: every answer is valid, and there is no error, whatever the bit patterns are.
func TestAnswersAreValid(t *testing.T) {
	d := dice(15039)
	for range 3000 {
		n := 1 + d.below(4)
		a, b := d.list(n, d.wild), d.list(n, d.wild)
		if d.below(2) == 0 { // so that not all is Empty
			for i := range a {
				a[i], b[i] = iv(min(a[i].Lo, a[i].Hi), max(a[i].Lo, a[i].Hi)), iv(min(b[i].Lo, b[i].Hi), max(b[i].Lo, b[i].Hi))
			}
		}
		for _, c := range calls() {
			x, err := c.ask(a, b, 1+d.below(16))
			if !ival.Valid(x) || !same(asRead(x), x) || err != api.OK {
				t.Errorf("%s(%s, %s) = %x, %d", c.name, shown(a), shown(b), x, err)
			}
			c.check(t, a, b, 1+d.below(16))
		}
	}
}
