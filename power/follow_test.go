package power_test

import (
	"math"
	"sync"
	"testing"

	"verge/api"
	"verge/ival"
	"verge/power"
)

// P7.5

// lies tells whether all elements of x are elements of y, of valid intervals.
func lies(x, y api.Interval) bool { return x == empty || y.Lo <= x.Lo && x.Hi <= y.Hi }

func TestNarrowerArguments(t *testing.T) {
	d := dice(7020)
	for range 4000 {
		x, y, n := d.interval(), d.interval(), d.power()
		in, on := d.inside(x), d.inside(y)
		if d.below(20) == 0 {
			in = empty
		}
		if d.below(20) == 0 {
			n = others()[d.below(len(others()))]
		}
		if got, wide := power.Pown(in, n), power.Pown(x, n); !lies(got, wide) {
			t.Errorf("Pown(%x, %d) = %x, Pown(%x, %d) = %x", in, n, got, x, n, wide)
		}
		for _, f := range unaries() {
			if got, wide := f.got(in), f.got(x); !lies(got, wide) {
				t.Errorf("%s(%x) = %x, %s(%x) = %x", f.name, in, got, f.name, x, wide)
			}
		}
		for _, f := range binaries() {
			if got, wide := f.got(in, on), f.got(x, y); !lies(got, wide) {
				t.Errorf("%s(%x, %x) = %x, %s(%x, %x) = %x", f.name, in, on, got, f.name, x, y, wide)
			}
		}
	}
}

func TestPowersByOtherCalls(t *testing.T) {
	eachInterval(7021, func(x api.Interval) {
		is(t, power.Pown(x, 1), ival.Read(x), "Pown(%x, 1)", x)
		is(t, power.Pown(x, 2), ival.Sqr(x), "Pown(%x, 2)", x)
		is(t, power.Pown(x, -1), ival.Recip(x), "Pown(%x, -1)", x)
	})
}

func TestTurned(t *testing.T) {
	d := dice(7022)
	eachInterval(7023, func(x api.Interval) {
		y := d.interval()
		is(t, power.Min(x, y), ival.Neg(power.Max(ival.Neg(x), ival.Neg(y))), "Min(%x, %x)", x, y)
		is(t, power.Ceil(x), ival.Neg(power.Floor(ival.Neg(x))), "Ceil(%x)", x)
		is(t, power.Trunc(ival.Neg(x)), ival.Neg(power.Trunc(x)), "Trunc of -%x", x)
		is(t, power.RoundEven(ival.Neg(x)), ival.Neg(power.RoundEven(x)), "RoundEven of -%x", x)
		is(t, power.RoundAway(ival.Neg(x)), ival.Neg(power.RoundAway(x)), "RoundAway of -%x", x)
		is(t, power.Sign(ival.Neg(x)), ival.Neg(power.Sign(x)), "Sign of -%x", x)
	})
}

func TestStepsOfSteps(t *testing.T) {
	for _, f := range steps() {
		eachInterval(7024, func(x api.Interval) {
			once := f.got(x)
			is(t, f.got(once), once, "%s of %s of %x", f.name, f.name, x)
		})
	}
}

// P7.6

// right tells whether an interval is valid, by the document's words.
func right(x api.Interval) bool {
	if x.Lo == inf && x.Hi == -inf {
		return true
	}
	noughts := x.Lo == 0 && math.Signbit(x.Lo) || x.Hi == 0 && math.Signbit(x.Hi)
	return x.Lo <= x.Hi && x.Lo != inf && x.Hi != -inf && !noughts
}

func TestAllAnswersAreValid(t *testing.T) {
	powers := append(others(), -3, -2, -1, 0, 1, 2, 3)
	eachPair(7025, func(p, q float64) {
		x, y, z := iv(p, q), iv(q, p), iv(p, p)
		for _, f := range unaries() {
			for _, got := range []api.Interval{f.got(x), f.got(z)} {
				if !right(got) {
					t.Errorf("%s of {%x, %x}: %x is not valid", f.name, p, q, got)
				}
			}
		}
		for _, f := range binaries() {
			for _, got := range []api.Interval{f.got(x, z), f.got(z, x), f.got(x, y), f.got(y, z)} {
				if !right(got) {
					t.Errorf("%s of %x and %x: %x is not valid", f.name, p, q, got)
				}
			}
		}
		for _, n := range powers {
			if got := power.Pown(x, n); !right(got) {
				t.Errorf("Pown({%x, %x}, %d): %x is not valid", p, q, n, got)
			}
		}
	})
}

func TestAllPowersAreValid(t *testing.T) {
	d := dice(7026)
	for n := -api.MaxPow - 2; n <= api.MaxPow+2; n++ {
		x := d.interval()
		if got := power.Pown(x, n); !right(got) {
			t.Errorf("Pown(%x, %d): %x is not valid", x, n, got)
		}
	}
}

// R4: the answers hang on nothing but the arguments.
func TestManyAtATime(t *testing.T) {
	var group sync.WaitGroup
	for range 8 {
		group.Go(func() {
			d := dice(7027)
			for range 200 {
				x, n := d.interval(), d.power()
				checkPown(t, x, n)
				for _, f := range unaries() {
					is(t, f.got(x), f.want(x), "%s(%x)", f.name, x)
				}
			}
		})
	}
	group.Wait()
}
