package short_test

import (
	"math"
	"testing"

	"verge/api"
	"verge/fbit"
	"verge/short"
)

// The rows of the chapter's examples.

func bits(lo, hi uint32) api.Short {
	return api.Short{Lo: math.Float32frombits(lo), Hi: math.Float32frombits(hi)}
}

func TestExamplesOfNarrow(t *testing.T) {
	for _, row := range []struct {
		x    api.Interval
		want api.Short
	}{
		{iv(0.1, 0.1), bits(0x3dcccccc, 0x3dcccccd)},
		{iv(1, 2), sv(1, 2)},
		{iv(2, 1), empty},
		{iv(-inf, inf), entire},
		{iv(-1e300, 1e300), entire},
		{iv(1e300, 1e301), sv(greatest, inf)},
		{iv(0x1p-200, 0x1p-190), sv(0, least)},
		{iv(-0x1p-200, 0x1p-200), sv(-least, least)},
		{iv(1+0x1p-40, 2), sv(1, 2)},
	} {
		is(t, short.Narrow(row.x), row.want, "Narrow(%x)", row.x)
	}
	isWide(t, short.Wide(sv(least, 1)), iv(0x1p-149, 1), "Wide([s, 1])")
}

func TestExamplesOfRead(t *testing.T) {
	is(t, short.Read(sv(signed, 1)), sv(0, 1), "Read({-0, 1})")
	is(t, short.Read(sv(nan, 1)), empty, "Read({NaN, 1})")
	is(t, short.Read(sv(inf, inf)), empty, "Read({+Inf, +Inf})")
	if short.Valid(sv(signed, 1)) || !short.Valid(empty) {
		t.Errorf("Valid({-0, 1}) = %t, Valid({+Inf, -Inf}) = %t", short.Valid(sv(signed, 1)), short.Valid(empty))
	}
}

func TestExamplesOfApply(t *testing.T) {
	type args = []api.Short
	for _, row := range []struct {
		op, n int
		args  args
		want  api.Short
	}{
		{api.OpDiv, 0, args{sv(1, 1), sv(3, 3)}, bits(0x3eaaaaaa, 0x3eaaaaab)},
		{api.OpMul, 0, args{sv(greatest, greatest), sv(2, 2)}, sv(greatest, inf)},
		{api.OpMul, 0, args{sv(least, least), sv(0.5, 0.5)}, sv(0, least)},
		{api.OpAdd, 0, args{sv(1, 1), sv(least, least)}, sv(1, 1+0x1p-23)},
		{api.OpRecip, 9, args{sv(0, 0)}, empty},
		{api.OpSqrt, 0, args{sv(-4, 4)}, sv(0, 2)},
		{api.OpPown, -1, args{sv(0, 2)}, sv(0.5, inf)},
		{api.OpAdd, 0, args{sv(1, 1)}, empty},
		{api.OpConst, 0, nil, empty},
		{0, 0, nil, empty},
		{api.OpPown, 1025, args{sv(1, 1)}, entire},
	} {
		is(t, short.Apply(row.op, row.n, row.args...), row.want, "Apply(%d, %d, %x)", row.op, row.n, row.args)
	}
}

func examplesOfPairs[F fbit.Float](t *testing.T) {
	x, y := pair[F](1, 3), pair[F](2, 4)
	isPair(t, short.Meet(x, y), pair[F](2, 3), "Meet of [1, 3] and [2, 4]")
	isPair(t, short.Join(x, y), pair[F](1, 4), "Join of [1, 3] and [2, 4]")
	isPair(t, short.Meet(pair[F](1, 2), pair[F](3, 4)), void[F](), "Meet of two that lie apart")
}

func TestExamplesOfPairs(t *testing.T) {
	eachKind(t, examplesOfPairs[float64], examplesOfPairs[mine64], examplesOfPairs[float32], examplesOfPairs[mine32], examplesOfPairs[loud32])
}
