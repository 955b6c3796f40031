package ival_test

import (
	"sync"
	"testing"

	"verge/api"
	"verge/ival"
)

// P6.4

// lies tells whether all elements of x are elements of y, of valid intervals.
func lies(x, y api.Interval) bool { return x == empty || y.Lo <= x.Lo && x.Hi <= y.Hi }

func TestNarrowerArguments(t *testing.T) {
	d := dice(6020)
	for range 5000 {
		x, y, z := d.interval(), d.interval(), d.interval()
		in, on, at := d.inside(x), d.inside(y), d.inside(z)
		if d.below(20) == 0 {
			in = empty
		}
		for _, f := range unaries() {
			if got, wide := f.got(in), f.got(x); !lies(got, wide) {
				t.Errorf("%s(%x) = %x, %s(%x) = %x", f.name, in, got, f.name, x, wide)
			}
		}
		for _, f := range binaries() {
			if got, wide := f.got(in, on), f.got(x, y); !lies(got, wide) {
				t.Errorf("%s(%x, %x) = %x, %s(%x, %x) = %x", f.name, in, on, got, f.name, x, y, wide)
			}
		}
		if got, wide := ival.FMA(in, on, at), ival.FMA(x, y, z); !lies(got, wide) {
			t.Errorf("FMA(%x, %x, %x) = %x, FMA(%x, %x, %x) = %x", in, on, at, got, x, y, z, wide)
		}
	}
}

// eachTwo hands out pairs of intervals, wrong ones too.
func eachTwo(seed dice, try func(x, y api.Interval)) {
	for _, x := range crossed(edges()) {
		for _, y := range crossed([]float64{-inf, -2, signed, 0, 0.3, greatest, inf, nan}) {
			try(x, y)
		}
	}
	for range 5000 {
		try(seed.interval(), seed.interval())
	}
}

func TestChangedAbout(t *testing.T) {
	d := dice(6021)
	eachTwo(6022, func(x, y api.Interval) {
		z := d.interval()
		is(t, ival.Add(x, y), ival.Add(y, x), "Add(%x, %x)", x, y)
		is(t, ival.Mul(x, y), ival.Mul(y, x), "Mul(%x, %x)", x, y)
		is(t, ival.FMA(x, y, z), ival.FMA(y, x, z), "FMA(%x, %x, %x)", x, y, z)
	})
}

func TestTurned(t *testing.T) {
	eachTwo(6023, func(x, y api.Interval) {
		is(t, ival.Neg(ival.Neg(x)), ival.Read(x), "Neg(Neg(%x))", x)
		is(t, ival.Sub(x, y), ival.Add(x, ival.Neg(y)), "Sub(%x, %x)", x, y)
	})
}

// P6.5

func TestAllAnswersAreValid(t *testing.T) {
	eachPair(6024, func(p, q float64) {
		x, y, z := iv(p, q), iv(q, p), iv(p, p)
		for _, f := range unaries() {
			for _, got := range []api.Interval{f.got(x), f.got(z)} {
				if !right(got) {
					t.Errorf("%s of {%x, %x}: %x is not valid", f.name, p, q, got)
				}
			}
		}
		for _, f := range binaries() {
			for _, got := range []api.Interval{f.got(x, z), f.got(z, x), f.got(x, y), f.got(y, z)} {
				if !right(got) {
					t.Errorf("%s of %x and %x: %x is not valid", f.name, p, q, got)
				}
			}
		}
		for _, got := range []api.Interval{ival.FMA(x, y, z), ival.FMA(x, z, x), ival.FMA(z, z, y), ival.Read(x)} {
			if !right(got) {
				t.Errorf("FMA, Read of %x and %x: %x is not valid", p, q, got)
			}
		}
	})
}

// R4: the answers hang on nothing but the arguments.
func TestManyAtATime(t *testing.T) {
	var group sync.WaitGroup
	for range 8 {
		group.Go(func() {
			d := dice(6025)
			for range 200 {
				x, y, z := d.interval(), d.interval(), d.interval()
				is(t, ival.FMA(x, y, z), wantFMA(x, y, z), "FMA(%x, %x, %x)", x, y, z)
				is(t, ival.Div(x, y), wantDiv(x, y), "Div(%x, %x)", x, y)
			}
		})
	}
	group.Wait()
}
