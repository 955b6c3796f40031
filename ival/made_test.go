package ival_test

import (
	"math"
	"testing"

	"verge/api"
	"verge/ival"
)

// patterns are NaNs of all kinds, and other ends on which much hangs.
func patterns() []float64 {
	out := append(edges(), some()...)
	for _, bits := range []uint64{0x7ff0000000000001, 0x7ff8000000000001, 0x7fffffffffffffff, 0xfff0000000000001, 0xfff8000000000000, 0xffffffffffffffff} {
		out = append(out, math.Float64frombits(bits))
	}
	return out
}

// eachPair hands all pairs of patterns to try, and pairs of any bits.
func eachPair(seed dice, try func(lo, hi float64)) {
	for _, lo := range patterns() {
		for _, hi := range patterns() {
			try(lo, hi)
		}
		for range 40 {
			any := math.Float64frombits(seed.next())
			try(lo, any)
			try(any, lo)
		}
	}
	for range 20000 {
		lo, hi := seed.next(), seed.next()
		try(math.Float64frombits(lo), math.Float64frombits(hi))
		try(math.Float64frombits(lo), math.Float64frombits(lo^1<<seed.below(64)))
	}
}

// right tells whether an interval is valid, by the document's words.
func right(x api.Interval) bool {
	if x.Lo == inf && x.Hi == -inf {
		return true
	}
	noughts := x.Lo == 0 && math.Signbit(x.Lo) || x.Hi == 0 && math.Signbit(x.Hi)
	return x.Lo <= x.Hi && x.Lo != inf && x.Hi != -inf && !noughts
}

// P6.1
func TestNew(t *testing.T) {
	eachPair(6001, func(lo, hi float64) {
		want, none := taken(iv(lo, hi))
		refusal := api.OK
		if none {
			want, refusal = iv(0, 0), api.ErrArg
		}
		got, e := ival.New(lo, hi)
		if e != refusal {
			t.Errorf("New(%x, %x): error %d, want %d", lo, hi, e, refusal)
		}
		is(t, got, want, "New(%x, %x)", lo, hi)
	})
}

// P6.1
func TestPoint(t *testing.T) {
	point := func(x float64) {
		want, refusal := iv(x+0, x+0), api.OK
		if math.IsNaN(x) || math.IsInf(x, 0) {
			want, refusal = iv(0, 0), api.ErrArg
		}
		got, e := ival.Point(x)
		if e != refusal {
			t.Errorf("Point(%x): error %d, want %d", x, e, refusal)
		}
		is(t, got, want, "Point(%x)", x)
	}
	for _, x := range patterns() {
		point(x)
	}
	d := dice(6002)
	for range 5000 {
		point(math.Float64frombits(d.next()))
	}
}

// P6.2
func TestRead(t *testing.T) {
	eachPair(6003, func(lo, hi float64) {
		want, _ := taken(iv(lo, hi))
		is(t, ival.Read(iv(lo, hi)), want, "Read({%x, %x})", lo, hi)
		is(t, ival.Read(want), want, "Read of what is read of {%x, %x}", lo, hi)
	})
}

// P6.2
func TestValid(t *testing.T) {
	eachPair(6004, func(lo, hi float64) {
		x := iv(lo, hi)
		if got := ival.Valid(x); got != right(x) {
			t.Errorf("Valid({%x, %x}) = %v", lo, hi, got)
		}
		if ival.Valid(x) && !same(ival.Read(x), x) {
			t.Errorf("{%x, %x} is valid, and read as another", lo, hi)
		}
	})
}

// P6.2
func TestEmptyAndEntire(t *testing.T) {
	is(t, ival.Empty(), empty, "Empty()")
	is(t, ival.Entire(), entire, "Entire()")
}
