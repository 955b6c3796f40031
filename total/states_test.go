package total_test

import (
	"fmt"
	"testing"

	"verge/total"
)

// Infinities and NaN as terms and as factors, and the states that come of them.

func special() []float64 {
	return []float64{nan, inf, -inf, 0, minus, 1, -1, least, -least, greatest, -greatest, 0x1.8p-1022}
}

func TestStateOfOneTerm(t *testing.T) {
	for _, x := range special() {
		check(t, fmt.Sprint("Add ", x), of(x), modelOf(number(x)), -1, 0, 1, 2, maxInt)
		for _, y := range special() {
			check(t, fmt.Sprint("Mul ", x, y), sumOf(product(x, y)), modelOf(product(x, y)), -1, 0, 1, 2, maxInt)
		}
	}
}

// TestStatesByHand holds what the chapter's words say against the program without the model.
func TestStatesByHand(t *testing.T) {
	for _, c := range []struct {
		a     term
		state int
	}{
		{number(inf), 1}, {number(-inf), -1}, {number(nan), 2}, {number(greatest), 0}, {number(minus), 0},
		{product(inf, 0), 2}, {product(inf, minus), 2}, {product(0, -inf), 2}, {product(minus, inf), 2}, {product(minus, -inf), 2},
		{product(inf, nan), 2}, {product(nan, -inf), 2}, {product(nan, 0), 2}, {product(0, nan), 2},
		{product(inf, least), 1}, {product(-least, inf), -1}, {product(-inf, -greatest), 1}, {product(greatest, -inf), -1},
		{product(inf, inf), 1}, {product(inf, -inf), -1}, {product(-inf, -inf), 1},
		{product(greatest, greatest), 0}, {product(greatest, -greatest), 0}, {product(least, minus), 0},
	} {
		if s := sumOf(c.a); s.State() != c.state {
			t.Errorf("%v: State %d, want %d", c.a, s.State(), c.state)
		}
	}
}

func TestStatesOfSeveralTerms(t *testing.T) {
	var terms []term
	for _, x := range []float64{nan, inf, -inf, minus, 2} {
		terms = append(terms, number(x))
		for _, y := range []float64{inf, -inf, 0, -3} {
			terms = append(terms, product(x, y))
		}
	}
	for _, a := range terms {
		for _, b := range terms {
			for _, c := range terms {
				checkQuick(t, []term{a, b, c}, sumOf(a, b, c), modelOf(a, b, c))
			}
			s, m := sumOf(a), modelOf(a)
			s.Merge(sumOf(b))
			m.merge(modelOf(b))
			checkQuick(t, []term{a, b}, s, m)
			s.Neg()
			m.neg()
			checkQuick(t, []term{a, b}, s, m)
			s.Merge(sumOf(a, b))
			m.merge(modelOf(a, b))
			checkQuick(t, []term{a, b}, s, m)
		}
	}
}

func TestNegInEachState(t *testing.T) {
	for _, c := range []struct {
		x           float64
		sign, state int
		turned      float64
	}{
		{inf, 1, 1, -inf}, {-inf, -1, -1, inf}, {nan, 0, 2, nan}, {2.5, 1, 0, -2.5}, {-least, -1, 0, least}, {0, 0, 0, 0}, {minus, 0, 0, 0},
	} {
		s := of(c.x)
		told(t, fmt.Sprint(c.x), s, c.sign, c.state)
		s.Neg()
		state := -c.state
		if c.state == 2 {
			state = 2
		}
		told(t, fmt.Sprint(c.x, " turned"), s, -c.sign, state)
		everyWay(t, fmt.Sprint(c.x, " turned"), s, c.turned)
		s.Neg()
		told(t, fmt.Sprint(c.x, " turned twice"), s, c.sign, c.state)
		everyWay(t, fmt.Sprint(c.x, " turned twice"), s, c.x+0)
	}
}

func TestNoneStaysNone(t *testing.T) {
	for _, l := range [][]term{{number(nan)}, {number(inf), number(-inf)}, {product(0, inf)}} {
		s := sumOf(l...)
		for _, a := range []term{number(1), number(inf), number(-inf), product(3, -inf), product(2, 5), number(nan)} {
			a.layIn(s)
			told(t, "none, added to", s, 0, 2)
			s.Neg()
			told(t, "none, turned", s, 0, 2)
		}
		s.Merge(of(1))
		s.Merge(of(-inf))
		s.Merge(s)
		told(t, "none, merged", s, 0, 2)
		for _, d := range directions {
			is(t, s.Round(d), nan, "none: Round(%d)", d)
			is(t, s.Root(d), nan, "none: Root(%d)", d)
			is(t, s.Over(d, 5), nan, "none: Over(%d, 5)", d)
		}
		o := of(4)
		o.Merge(s)
		told(t, "merged with none", o, 0, 2)
	}
}

// many tells a sum of 2^n terms x.
func many(x term, n int) *total.Sum {
	s := sumOf(x)
	for range n {
		s.Merge(s)
	}
	return s
}

func TestAsManyTermsAsMayBe(t *testing.T) {
	for _, a := range []term{number(0), number(minus), number(1), number(-0.1), number(inf), number(-inf), product(least, least), product(greatest, greatest),
		product(greatest, -greatest), product(2, inf), product(0, 5)} {
		s := many(a, 62)
		m := modelOf(a)
		for range 62 {
			m.merge(m.copied())
		}
		what := fmt.Sprint("2^62 of ", a)
		check(t, what, s, m, 1, 2, maxInt)
		s.Merge(total.New())
		s.Neg()
		m.neg()
		check(t, what+", turned", s, m, 1, 2, maxInt)
		for name, more := range map[string]func(s *total.Sum){
			"Add":    func(s *total.Sum) { s.Add(1) },
			"Add 0":  func(s *total.Sum) { s.Add(0) },
			"Mul":    func(s *total.Sum) { s.Mul(1, 1) },
			"Mul 0":  func(s *total.Sum) { s.Mul(minus, 0) },
			"Merge":  func(s *total.Sum) { s.Merge(of(1)) },
			"itself": func(s *total.Sum) { s.Merge(s) },
			"as many": func(s *total.Sum) {
				o := *s
				s.Merge(&o)
			},
		} {
			c := *s
			more(&c)
			told(t, what+", one more by "+name, &c, 0, 2)
			everyWay(t, what+", one more by "+name, &c, nan)
		}
	}
}

func TestOneTermLess(t *testing.T) {
	s := total.New() // 2^62 - 1 terms: 1 + 2 + 4 + ..
	for n := range 62 {
		s.Merge(many(number(1), n))
	}
	told(t, "2^62 - 1 terms", s, 1, 0)
	is(t, s.Round(-1), 0x1p62-512, "2^62 - 1 terms: Down")
	is(t, s.Round(1), 0x1p62, "2^62 - 1 terms: Up")
	s.Add(1)
	told(t, "2^62 terms", s, 1, 0)
	everyWay(t, "2^62 terms", s, 0x1p62)
	s.Add(-1)
	told(t, "2^62 + 1 terms", s, 0, 2)
}

// TestCountsThatWrap: however often what is none is doubled, it is none.
func TestCountsThatWrap(t *testing.T) {
	s := of(1)
	for n := range 300 {
		s.Merge(s)
		want := 0
		if n >= 62 {
			want = 2
		}
		if s.State() != want {
			t.Errorf("merged with itself %d times: State %d, want %d", n+1, s.State(), want)
		}
		o := of(1)
		o.Merge(s)
		if n >= 61 && o.State() != 2 {
			t.Errorf("merged with 2^%d terms: State %d", n+1, o.State())
		}
	}
	s.Add(1)
	told(t, "2^300 terms and one", s, 0, 2)
}

func TestGreatSumsCancel(t *testing.T) {
	for _, a := range []term{product(greatest, greatest), product(least, least), product(greatest, -least), number(1)} {
		s := many(a, 61)
		s.Merge(many(a.turned(), 61))
		told(t, fmt.Sprint("as many of ", a, " on both sides"), s, 0, 0)
		everyWay(t, fmt.Sprint("as many of ", a, " on both sides"), s, 0)
		s = many(a.turned(), 60)
		s.Merge(many(a, 60))
		s.Add(7)
		everyWay(t, fmt.Sprint("as many of ", a, " on both sides, and 7"), s, 7)
	}
}
