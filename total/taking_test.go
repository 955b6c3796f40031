package total_test

import (
	"fmt"
	"testing"

	"verge/total"
)

// P4.1: what is taken is kept exactly; P4.7: two sums have nothing in common.

func TestNothingTaken(t *testing.T) {
	var zero total.Sum
	for i, s := range []*total.Sum{total.New(), &zero, new(total.Sum), {}} {
		check(t, fmt.Sprint("nothing ", i), s, newModel(), minInt, -1, 0, 1, 2, maxInt)
	}
	zero.Add(3)
	zero.Mul(2, 0.5)
	check(t, "the zero value, added to", &zero, modelOf(number(4)), 1, 3)
	zero.Merge(new(total.Sum))
	check(t, "merged with the zero value", &zero, modelOf(number(4)), 1, 3)
	var other total.Sum
	other.Neg()
	check(t, "the zero value, turned", &other, newModel(), 1)
	other.Merge(&zero)
	check(t, "the zero value, merged", &other, modelOf(number(4)), 1)
}

func TestOneTerm(t *testing.T) {
	for _, x := range edges() {
		check(t, fmt.Sprint("Add ", x), of(x), modelOf(number(x)), 1, 2, 3)
	}
	for _, x := range edges() {
		for _, y := range edges() {
			s, m := sumOf(product(x, y)), modelOf(product(x, y))
			checkQuick(t, product(x, y), s, m)
			if !exactly(s, m) {
				t.Errorf("Mul(%v, %v) is not exact", x, y)
			}
		}
	}
}

func TestPairsOfNumbers(t *testing.T) {
	for _, x := range edges() {
		for _, y := range edges() {
			s, m := of(x, y), modelOf(number(x), number(y))
			checkQuick(t, []float64{x, y}, s, m)
			if !exactly(s, m) {
				t.Errorf("Add(%v), Add(%v) are not exact", x, y)
			}
		}
	}
}

func TestNumbersAndProducts(t *testing.T) {
	for _, x := range few() {
		for _, y := range few() {
			for _, z := range few() {
				s, m := sumOf(product(x, y), number(z)), modelOf(product(x, y), number(z))
				checkQuick(t, []float64{x, y, z}, s, m)
			}
		}
	}
}

func TestManyTerms(t *testing.T) {
	d := dice(4001)
	for run := range 60 {
		s, m := total.New(), newModel()
		for i := range 60 {
			a := d.term()
			if d.below(12) == 0 {
				s.Neg()
				m.neg()
			}
			a.layIn(s)
			m.take(a)
			checkQuick(t, fmt.Sprintf("run %d, %d terms", run, i+1), s, m)
		}
		if !exactly(s, m) {
			t.Errorf("run %d is not exact", run)
		}
		check(t, fmt.Sprint("run ", run), s, m, 1, 7, 1000, maxInt)
	}
}

// TestAllPlaces lays a term at each place that a product can have.
func TestAllPlaces(t *testing.T) {
	for _, sig := range []float64{1, 0x1p53 - 1, 0x1.5555555555555p52} {
		for exp := -half; exp <= 971; exp++ {
			for _, more := range []int{exp, max(exp-1, -half)} {
				a := product(ldexp(sig, exp), ldexp(sig, more))
				s, m := sumOf(a), modelOf(a)
				checkQuick(t, a, s, m)
				if !exactly(s, m) {
					t.Errorf("Mul(%v, %v) is not exact", a.x, a.y)
				}
			}
		}
	}
}

func TestMergeWithAnother(t *testing.T) {
	d := dice(4002)
	for run := range 200 {
		l, k := d.terms(d.below(5)), d.terms(d.below(5))
		s, m, o, n := sumOf(l...), modelOf(l...), sumOf(k...), modelOf(k...)
		s.Merge(o)
		m.merge(n)
		checkQuick(t, fmt.Sprintf("merged %d", run), s, m)
		checkQuick(t, fmt.Sprintf("the other %d", run), o, n)
		if !exactly(s, m) || !exactly(o, n) {
			t.Errorf("merge %d is not exact", run)
		}
		s.Add(1)
		s.Neg()
		checkQuick(t, fmt.Sprintf("the other %d, later", run), o, n)
		m.take(number(1))
		m.neg()
		o.Add(1)
		o.Neg()
		checkQuick(t, fmt.Sprintf("merged %d, later", run), s, m)
	}
}

func TestMergeTakesTermsAsTheyStand(t *testing.T) {
	s, o := of(1), of(10)
	s.Merge(o)
	o.Add(5)
	s.Merge(o)
	everyWay(t, "1, 10, (10, 5)", s, 26)
	everyWay(t, "10, 5", o, 15)
}

func TestMergeWithItself(t *testing.T) {
	d := dice(4003)
	for run := range 200 {
		l := d.terms(1 + d.below(5))
		s, m := sumOf(l...), modelOf(l...)
		s.Merge(s)
		m.merge(m.copied())
		checkQuick(t, fmt.Sprintf("twice %d", run), s, m)
		if !exactly(s, m) {
			t.Errorf("twice %d is not exact", run)
		}
	}
	nothing := total.New()
	nothing.Merge(nothing)
	check(t, "nothing twice", nothing, newModel(), 1)
}

func TestNeg(t *testing.T) {
	d := dice(4004)
	for run := range 200 {
		l := d.terms(d.below(5))
		s, m := sumOf(l...), modelOf(l...)
		s.Neg()
		m.neg()
		checkQuick(t, fmt.Sprintf("turned %d", run), s, m)
		a := d.term()
		a.layIn(s)
		m.take(a)
		if !exactly(s, m) {
			t.Errorf("turned %d and added to: not exact", run)
		}
		s.Neg()
		m.neg()
		checkQuick(t, fmt.Sprintf("turned twice %d", run), s, m)
	}
}

// changes are all that can be done to a sum.
func changes() map[string]func(s *total.Sum) {
	return map[string]func(s *total.Sum){
		"Add":       func(s *total.Sum) { s.Add(-7) },
		"Add inf":   func(s *total.Sum) { s.Add(inf) },
		"Mul":       func(s *total.Sum) { s.Mul(greatest, -greatest) },
		"Mul least": func(s *total.Sum) { s.Mul(least, -least) },
		"Mul NaN":   func(s *total.Sum) { s.Mul(nan, 1) },
		"Merge":     func(s *total.Sum) { s.Merge(of(1, 2)) },
		"itself":    func(s *total.Sum) { s.Merge(s) },
		"Neg":       func(s *total.Sum) { s.Neg() },
	}
}

func TestCopiesGoTheirOwnWay(t *testing.T) {
	l := []term{number(1), product(greatest, 3), product(least, least), number(-0.1)}
	for name, change := range changes() {
		s := sumOf(l...)
		c := *s
		change(s)
		check(t, name+" of the first", &c, modelOf(l...), 1)
		if !exactly(&c, modelOf(l...)) {
			t.Errorf("%s of the first: the copy is changed", name)
		}
		s = sumOf(l...)
		c = *s
		change(&c)
		check(t, name+" of the copy", s, modelOf(l...), 1)
		if !exactly(s, modelOf(l...)) {
			t.Errorf("%s of the copy: the first is changed", name)
		}
	}
}

func TestNewSumsGoTheirOwnWay(t *testing.T) {
	for name, change := range changes() {
		s, o := total.New(), total.New()
		change(s)
		check(t, name+" of another", o, newModel(), 1)
		check(t, name+" ahead of New", total.New(), newModel(), 1)
	}
}

// TestAskingChangesNothing is P4.4.
func TestAskingChangesNothing(t *testing.T) {
	ask := func(s *total.Sum) {
		for _, d := range directions {
			s.Round(d)
			s.Over(d, 3)
			s.Over(d, 0)
			s.Root(d)
		}
		s.Sign()
		s.State()
	}
	d := dice(4005)
	sums := []*total.Sum{total.New(), of(inf), of(-inf), of(nan), sumOf(product(-least, least)), sumOf(product(-greatest, greatest))}
	for range 40 {
		sums = append(sums, sumOf(d.terms(4)...))
	}
	for i, s := range sums {
		ahead := *s
		ask(s)
		if ahead != *s {
			t.Errorf("sum %d is changed by asking", i)
		}
	}
	s, m := total.New(), newModel()
	for i := range 50 {
		a := d.term()
		a.layIn(s)
		m.take(a)
		ask(s)
		if !exactly(s, m) {
			t.Errorf("%d terms, asked behind each: not exact", i+1)
		}
	}
}
