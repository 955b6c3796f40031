package fbit_test

import (
	"testing"

	"verge/api"
	"verge/fbit"
)

// The rows of the chapter's examples: each for the format that it names, and for a type of its own name.

func TestExampleRows64(t *testing.T) {
	t.Run("binary64", rows64[float64])
	t.Run("mine64", rows64[mine64])
	t.Run("loud64", rows64[loud64])
}

func TestExampleRows32(t *testing.T) {
	t.Run("binary32", rows32[float32])
	t.Run("mine32", rows32[mine32])
}

// want complains if an answer, told with what it answers, is another one.
func want[T comparable](t *testing.T, what string, got, wanted T) {
	t.Helper()
	if got != wanted {
		t.Errorf("%s = %v, want %v", what, got, wanted)
	}
}

// wantNumber does so by the bits, so that -0 is not taken for 0.
func wantNumber[F fbit.Float](t *testing.T, what string, got F, wanted float64) {
	t.Helper()
	if !same(got, F(wanted)) {
		t.Errorf("%s = %v, want %v", what, float64(got), wanted)
	}
}

type counted struct {
	n  int64
	ok bool
}

func count(n int64, ok bool) counted { return counted{n, ok} }

type split struct {
	neg bool
	sig uint64
	exp int
	ok  bool
}

func splitOf[F fbit.Float](x F) split {
	neg, sig, exp, ok := fbit.Split(x)
	return split{neg, sig, exp, ok}
}

func wantJoin[F fbit.Float](t *testing.T, neg bool, sig uint64, exp int, wanted float64, e api.Errno) {
	t.Helper()
	x, got := fbit.Join[F](neg, sig, exp)
	wantNumber(t, "P1.8: Join", x, wanted)
	want(t, "P1.8: Join's error", got, e)
}

func wantOf[F fbit.Float](t *testing.T, n int64, wanted float64, exact bool) {
	t.Helper()
	x, ok := fbit.Of[F](n)
	wantNumber(t, "P1.10: Of", x, wanted)
	want(t, "P1.10: whether Of is exact", ok, exact)
}

func wantAt[F fbit.Float](t *testing.T, p int64, wanted float64, there bool) {
	t.Helper()
	x, ok := fbit.At[F](p)
	wantNumber(t, "P1.5: At", x, wanted)
	want(t, "P1.5: whether there is one", ok, there)
}

func rows64[F fbit.Float](t *testing.T) {
	nan, top, zero := nans[F]()[0], inf[F](), minusZero[F]()
	const least = 5e-324
	small := tiny[F]()
	wantNumber(t, "the least number", small, least)
	for i, x := range []F{nan, -top, -1, -small, zero, 0, small, 2.2250738585072014e-308, top} {
		want(t, "P1.1: Class", fbit.Class(x), i)
	}
	want(t, "P1.1: Class(1e-40)", fbit.Class(F(1e-40)), 7)
	wantNumber(t, "P1.3: NextUp(0)", fbit.NextUp(F(0)), least)
	wantNumber(t, "P1.3: NextUp(-0)", fbit.NextUp(zero), least)
	wantNumber(t, "P1.3: NextUp(1)", fbit.NextUp(F(1)), 1+0x1p-52)
	wantNumber(t, "P1.3: NextUp(-1)", fbit.NextUp(F(-1)), -1+0x1p-53)
	wantNumber(t, "P1.3: NextUp(-5e-324)", fbit.NextUp(-small), 0)
	wantNumber(t, "P1.3: NextDown(5e-324)", fbit.NextDown(small), 0)
	wantNumber(t, "P1.3: NextUp of the greatest", fbit.NextUp(most[F]()), float64(top))
	wantNumber(t, "P1.3: NextUp(+Inf)", fbit.NextUp(top), float64(top))
	wantNumber(t, "P1.3: NextUp(-Inf)", fbit.NextUp(-top), float64(-most[F]()))
	wantNumber(t, "P1.3: NextUp(NaN)", fbit.NextUp(nan), float64(nan))
	want(t, "P1.4: Order(-0, 0)", fbit.Order(zero, 0), -1)
	want(t, "P1.4: Order(0, -0)", fbit.Order(0, zero), 1)
	want(t, "P1.4: Order(NaN, +Inf)", fbit.Order(nan, top), 1)
	want(t, "P1.4: Order(NaN, NaN)", fbit.Order(nan, nan), 0)
	want(t, "P1.4: Order(-1, -2)", fbit.Order(F(-1), F(-2)), 1)
	rows64Places[F](t)
	rows64Parts[F](t)
}

func rows64Places[F fbit.Float](t *testing.T) {
	nan, top, zero, small := nans[F]()[0], inf[F](), minusZero[F](), tiny[F]()
	want(t, "P1.5: Place(0)", count(fbit.Place(F(0))), counted{0, true})
	want(t, "P1.5: Place(-0)", count(fbit.Place(zero)), counted{0, true})
	want(t, "P1.5: Place(5e-324)", count(fbit.Place(small)), counted{1, true})
	want(t, "P1.5: Place(-5e-324)", count(fbit.Place(-small)), counted{-1, true})
	want(t, "P1.5: Place(1)", count(fbit.Place(F(1))), counted{4607182418800017408, true})
	want(t, "P1.5: Place(+Inf)", count(fbit.Place(top)), counted{9218868437227405312, true})
	want(t, "P1.5: Place(NaN)", count(fbit.Place(nan)), counted{0, false})
	wantAt[F](t, -1, -5e-324, true)
	wantAt[F](t, 9218868437227405312, float64(top), true)
	wantAt[F](t, 9218868437227405313, 0, false)
	want(t, "P1.6: Steps(1, 2)", count(fbit.Steps(F(1), F(2))), counted{4503599627370496, true})
	want(t, "P1.6: Steps(-5e-324, 5e-324)", count(fbit.Steps(-small, small)), counted{2, true})
	want(t, "P1.6: Steps(-0, 0)", count(fbit.Steps(zero, 0)), counted{0, true})
	want(t, "P1.6: Steps(2, 1)", count(fbit.Steps(F(2), F(1))), counted{-4503599627370496, true})
	want(t, "P1.6: Steps(-Inf, 0)", count(fbit.Steps(-top, 0)), counted{9218868437227405312, true})
	want(t, "P1.6: Steps(-Inf, +Inf)", count(fbit.Steps(-top, top)), counted{0, false})
	want(t, "P1.6: Steps(-1, +Inf)", count(fbit.Steps(F(-1), top)), counted{0, false})
	want(t, "P1.6: Steps(NaN, 1)", count(fbit.Steps(nan, 1)), counted{0, false})
}

func rows64Parts[F fbit.Float](t *testing.T) {
	want(t, "P1.7: Split(1)", splitOf(F(1)), split{false, 1 << 52, -52, true})
	want(t, "P1.7: Split(-0.75)", splitOf(F(-0.75)), split{true, 3 << 51, -53, true})
	want(t, "P1.7: Split(5e-324)", splitOf(tiny[F]()), split{false, 1, -1074, true})
	want(t, "P1.7: Split(-0)", splitOf(minusZero[F]()), split{false, 0, -1074, true})
	wantJoin[F](t, false, 3, -1, 1.5, api.OK)
	wantJoin[F](t, true, 0, 5, 0, api.OK)
	wantJoin[F](t, false, 1<<53+1, 0, 0, api.ErrArg)
	wantJoin[F](t, false, 1<<53+2, 0, 9007199254740994, api.OK)
	wantJoin[F](t, false, 1, 1023, 0x1p1023, api.OK)
	wantJoin[F](t, false, 1, 1024, 0, api.ErrArg)
	wantJoin[F](t, false, 1, -1074, 5e-324, api.OK)
	wantJoin[F](t, false, 1, -1075, 0, api.ErrArg)
	wantJoin[F](t, false, 6, -1075, 1.5e-323, api.OK)
	wantJoin[F](t, false, 4, -1076, 0x1p-1074, api.OK)
	wantJoin[F](t, false, 16777217, 0, 16777217, api.OK)
	want(t, "P1.9: Whole(3)", count(fbit.Whole(F(3))), counted{3, true})
	want(t, "P1.9: Whole(-0)", count(fbit.Whole(minusZero[F]())), counted{0, true})
	want(t, "P1.9: Whole(0.5)", count(fbit.Whole(F(0.5))), counted{0, false})
	want(t, "P1.9: Whole(2^63)", count(fbit.Whole(F(0x1p63))), counted{0, false})
	want(t, "P1.9: Whole(-2^63)", count(fbit.Whole(F(-0x1p63))), counted{-9223372036854775808, true})
	want(t, "P1.9: Whole(+Inf)", count(fbit.Whole(inf[F]())), counted{0, false})
	wantOf[F](t, 9007199254740993, 9007199254740992, false)
	wantOf[F](t, 9007199254740995, 9007199254740996, false)
	wantOf[F](t, 9223372036854775807, 9223372036854775808, false)
	wantOf[F](t, -9223372036854775808, -9223372036854775808, true)
}

func rows32[F fbit.Float](t *testing.T) {
	want(t, "P1.1: Class(1e-40)", fbit.Class(F(1e-40)), 6)
	wantNumber(t, "P1.3: NextUp(1)", fbit.NextUp(F(1)), 1+0x1p-23)
	want(t, "P1.5: Place(1)", count(fbit.Place(F(1))), counted{1065353216, true})
	want(t, "P1.5: Place(+Inf)", count(fbit.Place(inf[F]())), counted{2139095040, true})
	want(t, "P1.6: Steps(-Inf, +Inf)", count(fbit.Steps(-inf[F](), inf[F]())), counted{4278190080, true})
	want(t, "P1.7: Split(1)", splitOf(F(1)), split{false, 8388608, -23, true})
	wantJoin[F](t, false, 16777217, 0, 0, api.ErrArg)
	wantOf[F](t, 9007199791611905, 9007200328482816, false)
}
