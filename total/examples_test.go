package total_test

import (
	"math"
	"testing"

	"verge/api"
	"verge/total"
)

// The rows of the chapter's examples.

func told(t *testing.T, what string, s *total.Sum, sign, state int) {
	t.Helper()
	if s.Sign() != sign || s.State() != state {
		t.Errorf("%s: Sign %d, State %d; want %d, %d", what, s.Sign(), s.State(), sign, state)
	}
}

func everyWay(t *testing.T, what string, s *total.Sum, want float64) {
	t.Helper()
	for _, d := range directions {
		is(t, s.Round(d), want, "%s: Round(%d)", what, d)
	}
}

func TestExamplesOfNothing(t *testing.T) {
	s := total.New()
	told(t, "none", s, 0, 0)
	everyWay(t, "none", s, 0)
	for _, d := range directions {
		is(t, s.Over(d, 3), 0, "none: Over(%d, 3)", d)
		is(t, s.Root(d), 0, "none: Root(%d)", d)
	}
}

func TestExamplesOfNumbers(t *testing.T) {
	s := of(1, least, -1)
	everyWay(t, "1, t, -1", s, least)
	told(t, "1, t, -1", s, 1, 0)
	everyWay(t, "g, g, -g", of(greatest, greatest, -greatest), greatest)
	s = of(greatest, greatest)
	is(t, s.Round(api.Down), greatest, "g, g: Down")
	is(t, s.Round(api.Up), inf, "g, g: Up")
	is(t, s.Round(api.Near), inf, "g, g: Near")
	told(t, "g, g", s, 1, 0)
	for _, d := range directions {
		is(t, s.Over(d, 2), greatest, "g, g: Over(%d, 2)", d)
	}
}

func TestExamplesOfProducts(t *testing.T) {
	s := sumOf(product(least, least))
	is(t, s.Round(api.Down), 0, "t t: Down")
	is(t, s.Round(api.Up), least, "t t: Up")
	is(t, s.Round(api.Near), 0, "t t: Near")
	told(t, "t t", s, 1, 0)
	s = sumOf(product(least, least), product(-least, least))
	everyWay(t, "t t, -t t", s, 0)
	told(t, "t t, -t t", s, 0, 0)
	everyWay(t, "g g, -g g, 5", sumOf(product(greatest, greatest), product(-greatest, greatest), number(5)), 5)
}

func TestExamplesOfInfinities(t *testing.T) {
	s := of(inf, 1)
	everyWay(t, "+Inf, 1", s, inf)
	told(t, "+Inf, 1", s, 1, 1)
	s.Add(-inf)
	everyWay(t, "+Inf, 1, -Inf", s, nan)
	told(t, "+Inf, 1, -Inf", s, 0, 2)
	s.Add(1)
	everyWay(t, "+Inf, 1, -Inf, 1", s, nan)
	told(t, "+Inf, 1, -Inf, 1", s, 0, 2)
	told(t, "0 +Inf", sumOf(product(0, inf)), 0, 2)
	told(t, "NaN", of(nan), 0, 2)
}

func TestExamplesOfPartsAndRoots(t *testing.T) {
	s := of(1, 1, 1)
	is(t, s.Over(api.Down, 3), 1, "1, 1, 1: Over(Down, 3)")
	for _, d := range directions {
		is(t, s.Over(d, 0), nan, "1, 1, 1: Over(%d, 0)", d)
		is(t, s.Over(d, -3), nan, "1, 1, 1: Over(%d, -3)", d)
	}
	is(t, s.Root(api.Down), math.Float64frombits(0x3ffbb67ae8584caa), "1, 1, 1: Root(Down)")
	is(t, s.Root(api.Up), math.Float64frombits(0x3ffbb67ae8584cab), "1, 1, 1: Root(Up)")
	s = of(-2)
	for _, d := range directions {
		is(t, s.Root(d), nan, "-2: Root(%d)", d)
	}
	s.Neg()
	is(t, s.Root(api.Down), math.Float64frombits(0x3ff6a09e667f3bcc), "-2, turned: Root(Down)")
}

func TestExamplesOfMerges(t *testing.T) {
	s := of(1)
	for range 62 {
		s.Merge(s)
	}
	everyWay(t, "2^62 terms", s, 0x1p62)
	told(t, "2^62 terms", s, 1, 0)
	s.Merge(s)
	told(t, "2^63 terms", s, 0, 2)
}

func TestExamplesOfLists(t *testing.T) {
	is(t, total.Total(api.Near, []float64{0x1p53, 1, 1}), 0x1p53+2, "Total(Near, 2^53, 1, 1)")
	is(t, total.Total(api.Near, []float64{0x1p53, 1}), 0x1p53, "Total(Near, 2^53, 1)")
	is(t, total.Abs(api.Up, []float64{-1, -inf}), inf, "Abs(Up, (-1, -Inf))")
	is(t, total.Squares(api.Down, []float64{3, 4}), 25, "Squares(Down, (3, 4))")
	for _, d := range directions {
		if x, err := total.Dot(d, []float64{1, 2}, []float64{3}); !same(x, 0) || err != api.ErrArg {
			t.Errorf("Dot(%d, (1, 2), (3)) = %v, %d", d, x, err)
		}
		if x, err := total.Dot(d, nil, nil); !same(x, 0) || err != api.OK {
			t.Errorf("Dot(%d, nothing, nothing) = %v, %d", d, x, err)
		}
	}
}
