package total_test

import (
	"fmt"
	"math"
	"testing"

	"verge/api"
	"verge/round"
	"verge/total"
)

// P4.6: what follows.

// answers are all that a sum tells, as bits; all NaN are one.
func answers(s *total.Sum) string {
	out := fmt.Sprint(s.State(), s.Sign())
	for _, d := range directions {
		for _, x := range []float64{s.Round(d), s.Over(d, 1), s.Over(d, 3), s.Over(d, 0), s.Root(d)} {
			if x != x {
				out += " NaN"
			} else {
				out += fmt.Sprintf(" %x", math.Float64bits(x))
			}
		}
	}
	return out
}

// gathered takes the terms in another order, in some sums that are merged one into another.
func gathered(d *dice, l []term) *total.Sum {
	order := append([]term{}, l...)
	for i := range order {
		j := i + d.below(len(order)-i)
		order[i], order[j] = order[j], order[i]
	}
	sums := make([]total.Sum, 1+d.below(5))
	for _, a := range order {
		a.layIn(&sums[d.below(len(sums))])
	}
	for len(sums) > 1 {
		last := len(sums) - 1
		sums[d.below(last)].Merge(&sums[last])
		sums = sums[:last]
	}
	return &sums[0]
}

func TestOrderAndPiecesPlayNoPart(t *testing.T) {
	d := dice(4040)
	for run := range 150 {
		l := d.terms(1 + d.below(20))
		for range d.below(3) { // some that cancel, some that are none
			l = append(l, l[d.below(len(l))].turned())
		}
		if run%3 == 0 {
			l = append(l, []term{number(inf), number(-inf), product(-2, inf), number(nan), product(0, inf)}[d.below(5)])
		}
		if run%9 == 0 {
			l = append(l, product(inf, 7))
		}
		want := answers(sumOf(l...))
		for range 10 {
			if got := answers(gathered(&d, l)); got != want {
				t.Errorf("run %d: %s, in another order %s", run, want, got)
			}
		}
	}
}

func minusOf(x float64) float64 { return 0 - x }

func TestBehindNeg(t *testing.T) {
	d := dice(4041)
	for run := range 300 {
		s := sumOf(d.terms(1 + d.below(4))...)
		down, near, up := s.Round(api.Down), s.Round(api.Near), s.Round(api.Up)
		low, high := s.Over(api.Down, 7), s.Over(api.Up, 7)
		s.Neg()
		is(t, s.Round(api.Down), minusOf(up), "turned %d: Down", run)
		is(t, s.Round(api.Up), minusOf(down), "turned %d: Up", run)
		is(t, s.Round(api.Near), minusOf(near), "turned %d: Near", run)
		is(t, s.Over(api.Down, 7), minusOf(high), "turned %d: Over(Down)", run)
		is(t, s.Over(api.Up, 7), minusOf(low), "turned %d: Over(Up)", run)
	}
	for _, x := range []float64{inf, -inf} {
		s := of(x)
		s.Neg()
		everyWay(t, "an infinity, turned", s, -x)
	}
}

func TestDownAndUpAreNeighbours(t *testing.T) {
	d := dice(4042)
	for run := range 600 {
		l := d.terms(1 + d.below(3))
		if run%4 == 0 { // one number is left
			l = append(l[:1], number(d.number()), l[0].turned())
		}
		s := sumOf(l...)
		down, near, up := s.Round(api.Down), s.Round(api.Near), s.Round(api.Up)
		isNumber := !math.IsInf(down, 0)
		if isNumber {
			rest := *s
			rest.Add(-down)
			isNumber = rest.Sign() == 0
		}
		if (down == up) != isNumber || down != up && math.Nextafter(down, inf) != up || near != down && near != up {
			t.Errorf("%v: Down %v, Near %v, Up %v, a number: %t", l, down, near, up, isNumber)
		}
	}
	for _, x := range []float64{inf, -inf} {
		if s := of(x, 1); s.Round(api.Down) != s.Round(api.Up) {
			t.Errorf("%v: Down %v, Up %v", x, s.Round(api.Down), s.Round(api.Up))
		}
	}
}

func TestTakenAndTakenOff(t *testing.T) {
	d := dice(4043)
	l := d.terms(6)
	for _, start := range [][]term{nil, l, {product(-least, least)}, {product(greatest, greatest)}} {
		m := modelOf(start...)
		for _, x := range edges() {
			s := sumOf(start...)
			s.Add(x)
			s.Add(-x)
			if !exactly(s, m) {
				t.Errorf("Add(%v), Add(%v) leave another number", x, -x)
			}
			for _, y := range few() {
				s.Mul(x, y)
				s.Mul(-x, y)
				if !exactly(s, m) {
					t.Errorf("Mul(%v, %v), Mul(%v, %v) leave another number", x, y, -x, y)
				}
			}
		}
	}
}

func TestAsRoundSays(t *testing.T) {
	for _, d := range directions {
		for _, x := range edges() {
			for _, y := range edges() {
				is(t, total.Total(d, []float64{x, y}), round.Add(d, x, y), "Total(%d, (%v, %v))", d, x, y)
				p, _ := total.Dot(d, []float64{x}, []float64{y})
				is(t, p, round.Mul(d, x, y), "Dot(%d, (%v), (%v))", d, x, y)
			}
		}
		for _, x := range few() {
			for _, y := range few() {
				for _, z := range few() {
					p, _ := total.Dot(d, []float64{x, z}, []float64{y, 1})
					is(t, p, round.FMA(d, x, y, z), "Dot(%d, (%v, %v), (%v, 1))", d, x, z, y)
				}
			}
		}
	}
}

func TestPartsAndRootsAsRoundSays(t *testing.T) {
	for _, d := range directions {
		for _, x := range edges() {
			is(t, of(x).Root(d), round.Sqrt(d, x), "Root(%d) of %v", d, x)
			is(t, of(x).Over(d, 3), round.Div(d, x, 3), "Over(%d, 3) of %v", d, x)
			is(t, of(x).Over(d, 1), of(x).Round(d), "Over(%d, 1) of %v", d, x)
		}
	}
}
