package short_test

import (
	"math"
	"testing"

	"verge/api"
	"verge/short"
)

// P14.4 and W10

// All signs, and all ways in which an end may be 0 or infinite.
func TestApplyOfAllSigns(t *testing.T) {
	few := proper(float32(-inf), -2, 0, 1, float32(inf))
	two := proper(float32(-inf), -3, -1, 0, 1, 2, float32(inf))
	for _, f := range operations() {
		of := two
		if f.operands == 3 {
			of = few
		}
		eachList(f.operands, of, func(list []api.Short) { f.checkApply(t, list...) })
	}
}

// Wrong ends, and the greatest and the least: all pairs of ends for each argument in its turn.
func TestApplyOfEdges(t *testing.T) {
	d := dice(14040)
	for _, f := range operations() {
		for at := range f.operands {
			args := list(f.operands, d.interval)
			for _, x := range shorts(patterns32()) {
				args[at] = x
				f.checkApply(t, args...)
			}
		}
	}
}

func TestApplyOfPairsOfEdges(t *testing.T) {
	all := shorts(few[float32](least, greatest))
	for _, f := range operations() {
		if f.operands == 2 {
			eachList(2, all, func(list []api.Short) { f.checkApply(t, list...) })
		}
	}
}

func TestApplyByChance(t *testing.T) {
	d := dice(14041)
	for _, f := range operations() {
		for range 1500 {
			f.checkApply(t, list(f.operands, d.interval)...)
			f.checkApply(t, list(f.operands, d.point)...)
			f.checkApply(t, list(f.operands, d.wild)...)
		}
	}
}

// Steps at whole numbers, at halves and next to them.
func TestApplyOfSteps(t *testing.T) {
	for _, f := range steps() {
		for _, n := range []float32{0, 1, 2, 3, 1 << 10, 1 << 22, 1<<23 - 1, 1 << 23, 1<<23 + 1, 1<<24 - 1, 1 << 24, 1 << 31, 1 << 64, greatest} {
			for _, g := range []float32{n, n + 0.25, n + 0.5} {
				for _, x := range []float32{below(g), g, above(g), -below(g), -g, -above(g)} {
					for _, y := range []float32{x, above(x), x + 0.25, x + 0.5, x + 1, float32(inf)} {
						f.checkApply(t, api.Short{Lo: x, Hi: y})
					}
				}
			}
		}
	}
}

// Where values pass the range of binary32 on either side, those of binary64 too, and where they do not quite.
func TestApplyAtTheEndsOfTheRange(t *testing.T) {
	root := float32(math.Sqrt(greatest))
	var some []api.Short
	for _, x := range bothSigns([]float32{least, 3 * least, 0x1p-126, 0x1p-75, 0x1p-74, 0.5, below(1), 1, above(1), 2, 0x1p63, 0x1p64, below(root), root, above(root), 0x1p102, 0x1p103, 0x1p104, greatest / 2, below(greatest), greatest}) {
		some = append(some, api.Short{Lo: x, Hi: x})
	}
	fewer := []api.Short{some[0], some[1], sv(0.5, 0.5), sv(1, 1), sv(2, 2), sv(0x1p103, 0x1p103), sv(-0x1p104, -0x1p104), sv(greatest, greatest), sv(-greatest, -greatest)}
	for _, f := range operations() {
		of := some
		if f.operands == 3 {
			of = fewer
		}
		eachList(f.operands, of, func(list []api.Short) { f.checkApply(t, list...) })
	}
	for _, n := range []int{5, 8, 9, 17, 127, 128, 149, 150, 1023, 1024} {
		for _, x := range some {
			power(n).checkApply(t, x)
			power(-n).checkApply(t, x)
		}
	}
}

// Powers up to the limits, and beyond.
func TestApplyOfPowers(t *testing.T) {
	few := append(proper(float32(-inf), -1, 0, 1, 2, float32(inf)), sv(1.25, 1.5), sv(-1.5, -0.75), sv(nan, 1), sv(2, 1), sv(signed, 0.5), bits(0x3f800001, 0x3f800001))
	for n := -20; n <= 20; n++ {
		for _, x := range few {
			power(n).checkApply(t, x)
		}
	}
	for _, n := range []int{-1024, -1023, 1023, 1024} {
		for _, x := range few {
			power(n).checkApply(t, x)
		}
	}
	for _, n := range beyond() {
		for _, x := range append(few, shorts(patterns32())...) {
			want := entire
			if readShort(x) == empty {
				want = empty
			}
			is(t, short.Apply(api.OpPown, n, x), want, "Apply(OpPown, %d, %x)", n, x)
		}
	}
}

// The power counts for OpPown alone.
func TestPowerNotLookedAt(t *testing.T) {
	d := dice(14042)
	for _, f := range append(smooth(), steps()...) {
		for _, n := range append(beyond(), -1024, -3, -2, -1, 1, 2, 3, 1024) {
			f.n = n
			for range 10 {
				f.checkApply(t, list(f.operands, d.interval)...)
				f.checkApply(t, list(f.operands, d.point)...)
			}
		}
	}
}

// Empty in any place.
func TestApplyOfEmpty(t *testing.T) {
	d := dice(14043)
	for _, f := range append(operations(), power(1024), power(-1024), power(1025), power(-1025)) {
		for at := range f.operands {
			for _, x := range []api.Short{empty, sv(2, 1), sv(nan, nan), sv(nan, 1), sv(1, nan), sv(inf, inf), sv(-inf, -inf)} {
				args := list(f.operands, d.interval)
				args[at] = x
				is(t, short.Apply(f.op, f.n, args...), empty, "%s %d of %x", f.name, f.n, args)
			}
		}
	}
}

func checkNone(t *testing.T, op, n, count int, x api.Short) {
	t.Helper()
	args := list(count, func() api.Short { return x })
	is(t, short.Apply(op, n, args...), empty, "Apply(%d, %d, %d times %x)", op, n, count, x)
}

func TestNoOperation(t *testing.T) {
	for _, op := range strangers() {
		for _, n := range []int{0, 1, -1, 2000} {
			for count := range 6 {
				for _, x := range []api.Short{sv(1, 2), empty, entire, sv(2, 1), sv(nan, nan)} {
					checkNone(t, op, n, count, x)
				}
			}
		}
	}
	for op := -300; op <= 300; op++ {
		for count := range 5 {
			if op < api.OpId || op > api.OpRoundAway {
				checkNone(t, op, 0, count, sv(1, 2))
			}
		}
	}
}

func TestNumberOfArguments(t *testing.T) {
	for _, f := range append(operations(), power(1024), power(-1024), power(1025), power(-1025), power(math.MaxInt), power(math.MinInt)) {
		for _, count := range []int{0, 1, 2, 3, 4, 5, 16, 257, 1 << 16} {
			for _, x := range []api.Short{sv(1, 2), empty, entire, sv(2, 1)} {
				if count != f.operands {
					checkNone(t, f.op, f.n, count, x)
				}
			}
		}
	}
}

// Every operation, written out.
func TestApplyWrittenOut(t *testing.T) {
	type args = []api.Short
	big, tiny, one := sv(greatest, greatest), sv(least, least), sv(1, 1)
	for _, row := range []struct {
		op, n int
		args  args
		want  api.Short
	}{
		{api.OpId, 0, args{sv(signed, 2)}, sv(0, 2)},
		{api.OpNeg, 0, args{sv(0, greatest)}, sv(-greatest, 0)},
		{api.OpAdd, 0, args{big, tiny}, sv(greatest, inf)},
		{api.OpAdd, 0, args{big, sv(0x1p103, 0x1p103)}, sv(greatest, inf)},
		{api.OpAdd, 0, args{one, sv(0x1p-24, 0x1p-24)}, sv(1, 1+0x1p-23)},
		{api.OpSub, 0, args{one, tiny}, sv(1-0x1p-24, 1)},
		{api.OpSub, 0, args{sv(-greatest, -greatest), big}, sv(-inf, -greatest)},
		{api.OpMul, 0, args{sv(1+0x1p-23, 1+0x1p-23), sv(1+0x1p-23, 1+0x1p-23)}, sv(1+0x1p-22, 1+0x1p-22+0x1p-23)},
		{api.OpMul, 0, args{tiny, sv(-least, -least)}, sv(-least, 0)},
		{api.OpMul, 0, args{sv(0, 0), entire}, sv(0, 0)},
		{api.OpMul, 0, args{sv(-2, 3), sv(4, 5)}, sv(-10, 15)},
		{api.OpDiv, 0, args{tiny, big}, sv(0, least)},
		{api.OpDiv, 0, args{big, tiny}, sv(greatest, inf)},
		{api.OpDiv, 0, args{sv(1, 2), sv(0, 4)}, sv(0.25, inf)},
		{api.OpDiv, 0, args{sv(1, 2), sv(0, 0)}, empty},
		{api.OpDiv, 0, args{sv(1, 2), sv(-1, 1)}, entire},
		{api.OpRecip, 0, args{tiny}, sv(greatest, inf)},
		{api.OpRecip, 0, args{sv(2, inf)}, sv(0, 0.5)},
		{api.OpSqr, 0, args{sv(-3, 2)}, sv(0, 9)},
		{api.OpSqr, 0, args{big}, sv(greatest, inf)},
		{api.OpSqr, 0, args{tiny}, sv(0, least)},
		{api.OpSqrt, 0, args{sv(2, 2)}, bits(0x3fb504f3, 0x3fb504f4)},
		{api.OpSqrt, 0, args{sv(-2, -1)}, empty},
		{api.OpFMA, 0, args{tiny, tiny, one}, sv(1, 1+0x1p-23)},
		{api.OpFMA, 0, args{tiny, tiny, sv(0x1p-24, 0x1p-24)}, sv(0x1p-24, 0x1p-24+0x1p-47)},
		{api.OpFMA, 0, args{big, sv(2, 2), sv(-greatest, -greatest)}, big},
		{api.OpFMA, 0, args{sv(3, 4), sv(-1, 2), one}, sv(-3, 9)},
		{api.OpPown, 0, args{entire}, one},
		{api.OpPown, 3, args{sv(-2, 3)}, sv(-8, 27)},
		{api.OpPown, 127, args{sv(2, 2)}, sv(0x1p127, 0x1p127)},
		{api.OpPown, 128, args{sv(2, 2)}, sv(greatest, inf)},
		{api.OpPown, -149, args{sv(2, 2)}, tiny},
		{api.OpPown, -150, args{sv(2, 2)}, sv(0, least)},
		{api.OpPown, 1023, args{big}, sv(greatest, inf)},
		{api.OpPown, 1024, args{sv(-greatest, -greatest)}, sv(greatest, inf)},
		{api.OpPown, -1023, args{sv(-greatest, -greatest)}, sv(-least, 0)},
		{api.OpPown, 1024, args{one}, one},
		{api.OpPown, -1024, args{one}, one},
		{api.OpPown, -1025, args{one}, entire},
		{api.OpPown, -1025, args{empty}, empty},
		{api.OpAbs, 0, args{sv(-3, 2)}, sv(0, 3)},
		{api.OpMin, 0, args{sv(2, 7), sv(0, 5)}, sv(0, 5)},
		{api.OpMax, 0, args{sv(2, 7), sv(0, 5)}, sv(2, 7)},
		{api.OpSign, 0, args{sv(-5, least)}, sv(-1, 1)},
		{api.OpFloor, 0, args{sv(-0.5, 1.5)}, sv(-1, 1)},
		{api.OpCeil, 0, args{sv(-0.5, 1.5)}, sv(0, 2)},
		{api.OpTrunc, 0, args{sv(-1.5, 1.5)}, sv(-1, 1)},
		{api.OpRoundEven, 0, args{sv(0.5, 2.5)}, sv(0, 2)},
		{api.OpRoundAway, 0, args{sv(0.5, 2.5)}, sv(1, 3)},
	} {
		is(t, short.Apply(row.op, row.n, row.args...), row.want, "Apply(%d, %d, %x)", row.op, row.n, row.args)
	}
}
