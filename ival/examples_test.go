package ival_test

import (
	"testing"

	"verge/api"
	"verge/ival"
)

// The rows of the chapter's examples.

func TestExamplesOfMaking(t *testing.T) {
	for _, c := range []struct {
		lo, hi float64
		want   api.Interval
		e      api.Errno
	}{
		{1, 2, iv(1, 2), api.OK}, {signed, 0, iv(0, 0), api.OK}, {2, 1, iv(0, 0), api.ErrArg},
		{1, inf, iv(1, inf), api.OK}, {inf, inf, iv(0, 0), api.ErrArg}, {inf, -inf, iv(0, 0), api.ErrArg},
	} {
		got, e := ival.New(c.lo, c.hi)
		if e != c.e {
			t.Errorf("New(%v, %v): error %d, want %d", c.lo, c.hi, e, c.e)
		}
		is(t, got, c.want, "New(%v, %v)", c.lo, c.hi)
	}
	is(t, ival.Read(iv(2, 1)), empty, "Read({2, 1})")
	is(t, ival.Read(iv(signed, 5)), iv(0, 5), "Read({-0, 5})")
	is(t, ival.Read(iv(nan, 1)), empty, "Read({NaN, 1})")
	if ival.Valid(iv(signed, 5)) || !ival.Valid(empty) {
		t.Error("Valid({-0, 5}), Valid({+Inf, -Inf})")
	}
}

func TestExamplesOfOperations(t *testing.T) {
	for _, c := range []struct {
		call      string
		got, want api.Interval
	}{
		{"Add({0.1, 0.1}, {0.2, 0.2})", ival.Add(iv(0.1, 0.1), iv(0.2, 0.2)), iv(0x1.3333333333333p-2, 0x1.3333333333334p-2)},
		{"Add({M, M}, {M, M})", ival.Add(iv(greatest, greatest), iv(greatest, greatest)), iv(greatest, inf)},
		{"Add({1, 2}, Empty)", ival.Add(iv(1, 2), empty), empty},
		{"Add({-Inf, 1}, {2, +Inf})", ival.Add(iv(-inf, 1), iv(2, inf)), entire},
		{"Mul({-2, 3}, {4, 5})", ival.Mul(iv(-2, 3), iv(4, 5)), iv(-10, 15)},
		{"Mul({0, 0}, Entire)", ival.Mul(iv(0, 0), entire), iv(0, 0)},
		{"Mul({m, m}, {m, m})", ival.Mul(iv(least, least), iv(least, least)), iv(0, least)},
		{"Mul({0, 1}, {2, +Inf})", ival.Mul(iv(0, 1), iv(2, inf)), iv(0, inf)},
		{"Div({1, 2}, {4, 8})", ival.Div(iv(1, 2), iv(4, 8)), iv(0.125, 0.5)},
		{"Div({1, 1}, {3, 3})", ival.Div(iv(1, 1), iv(3, 3)), iv(0x1.5555555555555p-2, 0x1.5555555555556p-2)},
		{"Div({1, 2}, {0, 0})", ival.Div(iv(1, 2), iv(0, 0)), empty},
		{"Div({0, 0}, {-1, 1})", ival.Div(iv(0, 0), iv(-1, 1)), iv(0, 0)},
		{"Div({1, 2}, {0, 4})", ival.Div(iv(1, 2), iv(0, 4)), iv(0.25, inf)},
		{"Div({1, 2}, {-4, 0})", ival.Div(iv(1, 2), iv(-4, 0)), iv(-inf, -0.25)},
		{"Div({-1, 2}, {0, 4})", ival.Div(iv(-1, 2), iv(0, 4)), entire},
		{"Div({1, 2}, {-1, 1})", ival.Div(iv(1, 2), iv(-1, 1)), entire},
		{"Div({1, +Inf}, {2, +Inf})", ival.Div(iv(1, inf), iv(2, inf)), iv(0, inf)},
		{"Recip({0, 2})", ival.Recip(iv(0, 2)), iv(0.5, inf)},
		{"Recip({-Inf, -4})", ival.Recip(iv(-inf, -4)), iv(-0.25, 0)},
		{"Recip(Entire)", ival.Recip(entire), entire},
		{"Sqr({-3, 2})", ival.Sqr(iv(-3, 2)), iv(0, 9)},
		{"Sqr({2, 3})", ival.Sqr(iv(2, 3)), iv(4, 9)},
		{"Sqrt({-1, 4})", ival.Sqrt(iv(-1, 4)), iv(0, 2)},
		{"Sqrt({2, 2})", ival.Sqrt(iv(2, 2)), iv(0x1.6a09e667f3bccp+0, 0x1.6a09e667f3bcdp+0)},
		{"Sqrt({-2, -1})", ival.Sqrt(iv(-2, -1)), empty},
		{"FMA({M, M}, {2, 2}, {-M, -M})", ival.FMA(iv(greatest, greatest), iv(2, 2), iv(-greatest, -greatest)), iv(greatest, greatest)},
		{"FMA({3, 4}, {-1, 2}, {1, 1})", ival.FMA(iv(3, 4), iv(-1, 2), iv(1, 1)), iv(-3, 9)},
		{"FMA({0, 0}, Entire, {1, 2})", ival.FMA(iv(0, 0), entire, iv(1, 2)), iv(1, 2)},
	} {
		is(t, c.got, c.want, "%s", c.call)
	}
}
