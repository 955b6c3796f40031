package round_test

import (
	"math"
	"math/big"
	"slices"
	"sync"
	"testing"

	"verge/api"
	"verge/fbit"
	"verge/round"
)

// P3.11, and P3.12.

// step is one of the calls, with floats alone to be told, and how its exact results are mirrored.
type step struct {
	name   string
	ask    func(d int, x, y, z float64) float64
	mirror func(x, y, z float64) (float64, float64, float64) // of these the exact result is minus that of x, y, z
	rising func(x, y, z float64) bool                        // whether the exact result rises with x there
}

func steps() []step {
	first := func(x, y, z float64) (float64, float64, float64) { return -x, y, z }
	all := func(x, y, z float64) (float64, float64, float64) { return -x, -y, -z }
	ends := func(x, y, z float64) (float64, float64, float64) { return -x, y, -z }
	always := func(x, y, z float64) bool { return true }
	above := func(x, y, z float64) bool { return y > 0 }
	return []step{
		{"Add", func(d int, x, y, z float64) float64 { return round.Add(d, x, y) }, all, always},
		{"Sub", func(d int, x, y, z float64) float64 { return round.Sub(d, x, y) }, all, always},
		{"Mul", func(d int, x, y, z float64) float64 { return round.Mul(d, x, y) }, first, above},
		{"Div", func(d int, x, y, z float64) float64 { return round.Div(d, x, y) }, first, above},
		{"FMA", round.FMA, ends, above},
		{"FMA in z", func(d int, x, y, z float64) float64 { return round.FMA(d, y, z, x) }, func(x, y, z float64) (float64, float64, float64) { return -x, -y, z }, always},
		{"Sqrt", func(d int, x, y, z float64) float64 { return round.Sqrt(d, x) }, nil, always},
		{"Pow 2", func(d int, x, y, z float64) float64 { return round.Pow(d, x, 2) }, nil, func(x, y, z float64) bool { return x >= 0 }},
		{"Pow 3", func(d int, x, y, z float64) float64 { return round.Pow(d, x, 3) }, first, always},
		{"Pow 60", func(d int, x, y, z float64) float64 { return round.Pow(d, x, 60) }, nil, func(x, y, z float64) bool { return x >= 0 }},
		{"minus Pow -1", func(d int, x, y, z float64) float64 { return 0 - round.Pow(-d, x, -1) }, nil, func(x, y, z float64) bool { return x != 0 && x != -least }},
		{"minus Pow -4", func(d int, x, y, z float64) float64 { return 0 - round.Pow(-d, x, -4) }, nil, func(x, y, z float64) bool { return x >= 0 }},
		{"Root 3", func(d int, x, y, z float64) float64 { return round.Root(d, x, 3) }, first, always},
		{"Root 4", func(d int, x, y, z float64) float64 { return round.Root(d, x, 4) }, nil, always},
		{"Root 31", func(d int, x, y, z float64) float64 { return round.Root(d, x, 31) }, first, always},
		{"Narrow", func(d int, x, y, z float64) float64 { return float64(round.Narrow(d, x)) }, first, always},
	}
}

// triples are edges, infinities and chance, three at a time.
func triples(f func(x, y, z float64)) {
	l := append(edges(), inf, -inf, nan)
	d := dice(41)
	for range 6000 {
		f(l[d.below(len(l))], l[d.below(len(l))], l[d.below(len(l))])
		f(d.number(), d.number(), d.number())
		x := d.within(-60, -40)
		f(x, d.within(-60, -40), d.within(-160, 0))
		f(x, x, -x*x)
	}
}

// neighbours asks whether the three belong to one real: Down and Up are one or next to one another,
// Near one of them.
func neighbours(s step, down, near, up float64) bool {
	if math.IsNaN(down) || math.IsNaN(near) || math.IsNaN(up) {
		return math.IsNaN(down) && math.IsNaN(near) && math.IsNaN(up)
	}
	next := fbit.NextUp(down)
	if s.name == "Narrow" {
		next = float64(fbit.NextUp(float32(down)))
	}
	return (up == down || up == next) && (near == down || near == up)
}

func TestDownNearUp(t *testing.T) {
	for _, s := range steps() {
		triples(func(x, y, z float64) {
			down, near, up := s.ask(api.Down, x, y, z), s.ask(api.Near, x, y, z), s.ask(api.Up, x, y, z)
			if !neighbours(s, down, near, up) {
				t.Errorf("%s of %x, %x, %x: %x, %x, %x", s.name, x, y, z, down, near, up)
			}
			for _, r := range []float64{down, near, up} {
				if r == 0 && math.Signbit(r) {
					t.Errorf("%s of %x, %x, %x: -0", s.name, x, y, z)
				}
			}
			if s.mirror == nil {
				return
			}
			a, b, c := s.mirror(x, y, z)
			is(t, s.ask(api.Down, a, b, c), 0-up, "%s down, of the negative of %x, %x, %x", s.name, x, y, z)
			is(t, s.ask(api.Up, a, b, c), 0-down, "%s up, of the negative of %x, %x, %x", s.name, x, y, z)
			is(t, s.ask(api.Near, a, b, c), 0-near, "%s near, of the negative of %x, %x, %x", s.name, x, y, z)
		})
	}
}

func TestMonotone(t *testing.T) {
	for _, s := range steps() {
		triples(func(x, y, z float64) {
			if !s.rising(x, y, z) {
				return
			}
			for _, d := range []int{api.Down, api.Near, api.Up} {
				if s.ask(d, x, y, z) > s.ask(d, fbit.NextUp(x), y, z) {
					t.Errorf("%s(%d) of %x, %x, %x falls", s.name, d, x, y, z)
				}
			}
		})
	}
}

// One and the same in all directions just if it is a number.
func TestExactJustThen(t *testing.T) {
	triples(func(x, y, z float64) {
		if math.IsNaN(x+y+z) || math.IsInf(x, 0) || math.IsInf(y, 0) || math.IsInf(z, 0) || y == 0 {
			return
		}
		a, b, c := realOf(x), realOf(y), realOf(z)
		for _, k := range []struct {
			name     string
			down, up float64
			exact    real
		}{
			{"Add", round.Add(api.Down, x, y), round.Add(api.Up, x, y), a.plus(b)},
			{"Mul", round.Mul(api.Down, x, y), round.Mul(api.Up, x, y), a.times(b)},
			{"Div", round.Div(api.Down, x, y), round.Div(api.Up, x, y), a.by(b)},
			{"FMA", round.FMA(api.Down, x, y, z), round.FMA(api.Up, x, y, z), a.times(b).plus(c)},
		} {
			down, _, up := binary64.around(k.exact)
			if (k.down == k.up) != (down == up) {
				t.Errorf("%s of %x, %x, %x: %x, %x", k.name, x, y, z, k.down, k.up)
			}
		}
	})
}

func TestOneCallByAnother(t *testing.T) {
	triples(func(x, y, z float64) {
		for _, d := range directions {
			is(t, round.Add(d, x, y), round.Add(d, y, x), "Add(%d, %x, %x), the order", d, x, y)
			is(t, round.Mul(d, x, y), round.Mul(d, y, x), "Mul(%d, %x, %x), the order", d, x, y)
			is(t, round.Sub(d, x, y), round.Add(d, x, -y), "Sub(%d, %x, %x)", d, x, y)
			is(t, round.FMA(d, x, 1, z), round.Add(d, x, z), "FMA(%d, %x, 1, %x)", d, x, z)
			is(t, round.FMA(d, x, y, 0), round.Mul(d, x, y), "FMA(%d, %x, %x, 0)", d, x, y)
			is(t, round.Pow(d, x, 1), fbit.Plain(x), "Pow(%d, %x, 1)", d, x)
			is(t, round.Pow(d, x, 2), round.Mul(d, x, x), "Pow(%d, %x, 2)", d, x)
			is(t, round.Root(d, x, 1), fbit.Plain(x), "Root(%d, %x, 1)", d, x)
			is(t, round.Root(d, x, 2), round.Sqrt(d, x), "Root(%d, %x, 2)", d, x)
			if x != 0 {
				is(t, round.Pow(d, x, -1), round.Div(d, 1, x), "Pow(%d, %x, -1)", d, x)
			}
		}
	})
}

func TestRatioOfMultiples(t *testing.T) {
	d := dice(42)
	alike := func(num, den []uint32, exp int, otherNum, otherDen []uint32, otherExp int) {
		t.Helper()
		for _, dir := range directions {
			neg := exp%2 == 0
			is(t, round.Ratio(dir, neg, otherNum, otherDen, otherExp), round.Ratio(dir, neg, num, den, exp), "Ratio(%d) of multiples, %d", dir, exp)
		}
	}
	for range 3000 {
		num, den, by := d.list(5), append(d.list(5), 1), value(append(d.list(5), 1))
		exp := d.below(2400) - 1200
		alike(num, den, exp, list(new(big.Int).Mul(value(num), by)), list(new(big.Int).Mul(value(den), by)), exp)
		alike(num, den, exp, list(shifted(value(num), 1)), den, exp-1)
		alike(num, den, exp, behind(num, 2), behind(den, 1), exp)
		for _, dir := range directions {
			is(t, round.Ratio(dir, true, num, words(1), exp), round.Of(dir, true, num, exp), "Ratio(%d) by 1", dir)
		}
	}
	long, short := full(api.MaxNat-9), words(7)
	up := func(a []uint32) []uint32 { return list(shifted(value(a), 288)) } // to the greatest length
	alike(long, short, -523700, up(long), up(short), -523700)
	alike(short, long, 523700, up(short), up(long), 523700)
	alike(long, short, minInt+288, up(long), short, minInt)
	alike(short, long, maxInt, up(short), long, maxInt-288)
}

// Of and Ratio rise with what they are told of.
func TestNaturalsMonotone(t *testing.T) {
	d := dice(43)
	for range 5000 {
		a, exp := d.list(4), d.below(2300)-1200
		next := list(new(big.Int).Add(value(a), big.NewInt(1)))
		den := append(d.list(3), 1)
		for _, dir := range []int{api.Down, api.Near, api.Up} {
			if round.Of(dir, false, a, exp) > round.Of(dir, false, next, exp) || round.Of(dir, true, a, exp) < round.Of(dir, true, next, exp) || round.Of(dir, false, a, exp) > round.Of(dir, false, a, exp+1) {
				t.Errorf("Of(%d) of %x, %d falls", dir, a, exp)
			}
			if round.Ratio(dir, false, a, den, exp) > round.Ratio(dir, false, next, den, exp) || round.Ratio(dir, false, den, next, exp) > round.Ratio(dir, false, den, a, exp) {
				t.Errorf("Ratio(%d) of %x, %x, %d falls", dir, a, den, exp)
			}
			is(t, round.Of(-dir, true, a, exp), 0-round.Of(dir, false, a, exp), "Of(%d, true, %x, %d)", -dir, a, exp)
			is(t, round.Ratio(-dir, true, a, den, exp), 0-round.Ratio(dir, false, a, den, exp), "Ratio(%d, true, %x, %x, %d)", -dir, a, den, exp)
		}
	}
}

// P3.12: lists stay as they are, the room behind them too.
func TestListsStay(t *testing.T) {
	l := append(lists(), full(api.MaxNat), full(api.MaxNat+1))
	d := dice(44)
	room := func(a []uint32) []uint32 { return append(slices.Clone(a), 0x5a5a5a5a, 0x5a5a5a5a, 0x5a5a5a5a) }
	for range 3000 {
		a, b := l[d.below(len(l))], l[d.below(len(l))]
		x, y := room(a), room(b)
		wasX, wasY := slices.Clone(x), slices.Clone(y)
		exp := exponents()[d.below(len(exponents()))]
		round.Of(api.Up, true, x[:len(a)], exp)
		round.Ratio(api.Down, false, x[:len(a)], y[:len(b)], exp)
		round.Ratio(api.Near, false, x[:len(a)], x[:len(a)], exp)
		if !slices.Equal(x, wasX) || !slices.Equal(y, wasY) {
			t.Fatalf("a list was changed: %d words, %d words, %d", len(a), len(b), exp)
		}
	}
}

// P3.12: an answer hangs on the arguments alone, whoever else asks.
func TestManyAskAtOnce(t *testing.T) {
	a, b := full(40), words(7, 0, 9)
	ask := func(i int) []float64 {
		x, y := 0.1*float64(i+1), math.Ldexp(0.3, 20*i-500)
		return []float64{round.Add(1, x, y), round.Mul(-1, x, y), round.Div(1, x, y), round.Sqrt(-1, y), round.FMA(1, x, y, x), round.Pow(1, x, 9), round.Root(-1, y, 5), round.Of(1, true, a, i), round.Ratio(-1, false, a, b, i), float64(round.Narrow(1, x))}
	}
	var first, second [50][]float64
	var w sync.WaitGroup
	for i := range first {
		w.Add(1)
		go func() {
			defer w.Done()
			first[i] = ask(i)
		}()
	}
	w.Wait()
	for i := range second {
		if second[i] = ask(i); !slices.Equal(first[i], second[i]) {
			t.Errorf("%d: %v, then %v", i, first[i], second[i])
		}
	}
}

// P3.12: every call ends at all numbers.
func TestEveryCallEnds(t *testing.T) {
	numbers := []float64{0, minus, least, -least, 1, -1, greatest, -greatest, inf, -inf, nan}
	ints := []int{minInt, minInt + 1, -1025, -1024, -1, 0, 1, 2, 1023, 1024, 1025, maxInt - 1, maxInt}
	for _, d := range ints {
		for _, x := range numbers {
			for _, n := range ints {
				round.Pow(d, x, n)
				if n < 100 {
					round.Root(d, x, n)
				}
			}
		}
		for _, a := range [][]uint32{nil, {0}, {1}, full(9), full(api.MaxNat), full(api.MaxNat + 1)} {
			for _, n := range ints {
				round.Of(d, n%2 == 0, a, n)
				round.Ratio(d, n%2 == 0, words(3), a, n)
			}
		}
	}
}
