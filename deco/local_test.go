package deco_test

import (
	"math"
	"testing"

	"verge/api"
	"verge/deco"
)

// P11.2 and P11.3.

// All signs, and all ways in which an end may be 0 or infinite.
func TestLocalOfAllSigns(t *testing.T) {
	few := proper(-inf, -2, -1, 0, 1, 3, inf)
	for _, f := range operations() {
		eachList(f.operands, few, func(list []api.Interval) { f.checkLocal(t, list...) })
	}
}

// Wrong ends, and the greatest and the least: all pairs of ends for each argument in its turn.
func TestLocalOfEdges(t *testing.T) {
	d := dice(11010)
	for _, f := range operations() {
		for at := range f.operands {
			args := list(f.operands, d.interval)
			for _, x := range crossed(edges()) {
				args[at] = x
				f.checkLocal(t, args...)
			}
		}
	}
}

func TestLocalOfPairsOfEdges(t *testing.T) {
	few := crossed([]float64{-inf, -greatest, signed, 0, least, 1, greatest, inf, nan})
	for _, f := range operations() {
		if f.operands == 2 {
			eachList(2, few, func(list []api.Interval) { f.checkLocal(t, list...) })
		}
	}
}

// Steps at whole numbers, at halves and next to them: narrow arguments, over which a step may have one
// value or more.
func TestLocalOfSteps(t *testing.T) {
	for _, f := range steps() {
		for _, x := range halves() {
			for _, y := range []float64{x, above(x), below(x), x + 0.25, x + 0.5, x + 1, -x, inf, -inf} {
				f.checkLocal(t, iv(min(x, y), max(x, y)))
			}
		}
	}
}

func TestLocalByChance(t *testing.T) {
	d := dice(11011)
	for _, f := range operations() {
		for range 1000 {
			f.checkLocal(t, list(f.operands, d.interval)...)
			f.checkLocal(t, list(f.operands, d.narrow)...)
			f.checkLocal(t, list(f.operands, d.wild)...)
		}
	}
}

// Where the answer passes the greatest number, and where it does not quite.
func TestLocalPastTheGreatest(t *testing.T) {
	half, root := greatest/2, math.Sqrt(greatest)
	big := []api.Interval{iv(greatest, greatest), iv(-greatest, -greatest), iv(half, half), iv(1, half), iv(1, above(half)), iv(root, root),
		iv(-root, root), iv(above(root), above(root)), iv(1, 1), iv(2, 2), iv(1, above(1)), iv(0x1p970, 0x1p970), iv(below(0x1p970), below(0x1p970)), iv(0, least), iv(0.5, 1)}
	for _, f := range operations() {
		eachList(f.operands, big, func(list []api.Interval) { f.checkLocal(t, list...) })
	}
	for _, n := range []int{5, 17, 512, 1023, 1024, -5, -17, -1023, -1024} {
		for _, x := range append(big, iv(2, 2), iv(below(2), below(2)), iv(-2, 2), iv(0.5, 0.5), iv(0.25, 0.5)) {
			power(n).checkLocal(t, x)
		}
	}
}

// Powers up to the limits, and beyond.
func TestLocalOfPowers(t *testing.T) {
	few := append(proper(-inf, -1, 0, 1, 2, inf), iv(1.25, 1.5), iv(-1.5, -0.75), iv(nan, 1), iv(2, 1), iv(signed, 0.5))
	for n := -20; n <= 20; n++ {
		for _, x := range few {
			power(n).checkLocal(t, x)
		}
	}
	for _, n := range []int{-1024, -1023, -1022, 1022, 1023, 1024} {
		for _, x := range few {
			power(n).checkLocal(t, x)
		}
	}
	for _, n := range beyond() {
		for _, x := range few {
			want := entire
			if read(x) == empty {
				want = empty
			}
			checkRow(t, api.OpPown, n, []api.Interval{x}, want, api.Trv)
		}
	}
}

// The power counts for OpPown alone.
func TestPowerNotLookedAt(t *testing.T) {
	d := dice(11012)
	for _, f := range append(smooth(), steps()...) {
		for _, n := range append(beyond(), -1024, -3, -2, -1, 1, 2, 3, 1024) {
			f.n = n
			for range 10 {
				f.checkLocal(t, list(f.operands, d.interval)...)
				f.checkLocal(t, list(f.operands, d.narrow)...)
				f.checkApply(t, list(f.operands, d.decorated)...)
				for place := range f.operands {
					f.checkBack(t, place, d.interval(), d.interval(), list(f.operands-1, d.interval)...)
					f.checkBackDeco(t, place, d.decorated(), d.decorated(), list(f.operands-1, d.decorated)...)
				}
			}
		}
	}
}

func checkNone(t *testing.T, op, n int, args []api.Interval) {
	t.Helper()
	checkRow(t, op, n, args, empty, api.Ill)
	decos := make([]api.Deco, len(args))
	for i, x := range args {
		decos[i] = api.Deco{X: x, D: api.Com}
	}
	isDeco(t, deco.Apply(op, n, decos...), nai, "Apply(%d, %d, %x)", op, n, decos)
}

func TestNoOperation(t *testing.T) {
	for _, op := range strangers() {
		for _, n := range []int{0, 1, -1, 2000} {
			for count := range 6 {
				for _, x := range []api.Interval{iv(1, 2), empty, entire, iv(2, 1), iv(nan, nan)} {
					checkNone(t, op, n, list(count, func() api.Interval { return x }))
				}
			}
		}
	}
	for op := -300; op <= 300; op++ {
		for count := range 5 {
			if op < api.OpId || op > api.OpRoundAway {
				checkNone(t, op, 0, list(count, func() api.Interval { return iv(1, 2) }))
			}
		}
	}
}

func TestNumberOfArguments(t *testing.T) {
	for _, f := range operations() {
		for _, count := range []int{0, 1, 2, 3, 4, 5, 16, 257, 1 << 16} {
			for _, x := range []api.Interval{iv(1, 2), empty, entire, iv(2, 1)} {
				if count != f.operands {
					checkNone(t, f.op, f.n, list(count, func() api.Interval { return x }))
				}
			}
		}
	}
	for _, n := range beyond() {
		for _, count := range []int{0, 2, 3} {
			checkNone(t, api.OpPown, n, list(count, func() api.Interval { return iv(1, 2) }))
		}
	}
}

// The local decoration of each operation, written out.
func TestLocalWrittenOut(t *testing.T) {
	type args = []api.Interval
	max, one, line := iv(greatest, greatest), iv(1, 1), iv(1, inf)
	for _, row := range []struct {
		op, n int
		args  args
		want  api.Interval
		d     int
	}{
		{api.OpId, 0, args{iv(signed, 2)}, iv(0, 2), api.Com},
		{api.OpId, 0, args{line}, line, api.Dac},
		{api.OpId, 0, args{empty}, empty, api.Trv},
		{api.OpId, 0, args{iv(2, 1)}, empty, api.Trv},
		{api.OpNeg, 0, args{iv(0, 2)}, iv(-2, 0), api.Com},
		{api.OpNeg, 0, args{entire}, entire, api.Dac},
		{api.OpAdd, 0, args{one, line}, iv(2, inf), api.Dac},
		{api.OpAdd, 0, args{one, empty}, empty, api.Trv},
		{api.OpSub, 0, args{iv(1, 2), iv(3, 5)}, iv(-4, -1), api.Com},
		{api.OpSub, 0, args{iv(-greatest, 1), max}, iv(-inf, -below(greatest)), api.Dac},
		{api.OpMul, 0, args{max, iv(0.5, 2)}, iv(greatest/2, inf), api.Dac},
		{api.OpMul, 0, args{iv(0, 0), entire}, iv(0, 0), api.Dac},
		{api.OpMul, 0, args{iv(least, least), iv(0.5, 0.5)}, iv(0, least), api.Com},
		{api.OpDiv, 0, args{iv(0, 0), iv(1, 2)}, iv(0, 0), api.Com},
		{api.OpDiv, 0, args{one, line}, iv(0, 1), api.Dac},
		{api.OpDiv, 0, args{iv(0, 1), iv(1, 2)}, iv(0, 1), api.Com},
		{api.OpDiv, 0, args{iv(1, 2), iv(0, 0)}, empty, api.Trv},
		{api.OpDiv, 0, args{iv(1, 2), iv(-1, 0)}, iv(-inf, -1), api.Trv},
		{api.OpDiv, 0, args{iv(1, 2), iv(-1, 1)}, entire, api.Trv},
		{api.OpDiv, 0, args{one, iv(least, 1)}, iv(1, inf), api.Dac},
		{api.OpRecip, 0, args{iv(2, 4)}, iv(0.25, 0.5), api.Com},
		{api.OpRecip, 0, args{iv(signed, 4)}, iv(0.25, inf), api.Trv},
		{api.OpRecip, 0, args{iv(-4, -least)}, iv(-inf, -0.25), api.Dac},
		{api.OpRecip, 0, args{iv(2, inf)}, iv(0, 0.5), api.Dac},
		{api.OpSqr, 0, args{iv(-2, 1)}, iv(0, 4), api.Com},
		{api.OpSqr, 0, args{max}, iv(greatest, inf), api.Dac},
		{api.OpSqrt, 0, args{iv(-4, -1)}, empty, api.Trv},
		{api.OpSqrt, 0, args{iv(-least, 0)}, iv(0, 0), api.Trv},
		{api.OpSqrt, 0, args{iv(signed, 0)}, iv(0, 0), api.Com},
		{api.OpSqrt, 0, args{iv(4, inf)}, iv(2, inf), api.Dac},
		{api.OpFMA, 0, args{iv(1, 2), iv(3, 4), iv(5, 6)}, iv(8, 14), api.Com},
		{api.OpFMA, 0, args{max, iv(2, 2), iv(-greatest, -greatest)}, max, api.Com},
		{api.OpFMA, 0, args{max, iv(2, 2), iv(0, 1)}, iv(greatest, inf), api.Dac},
		{api.OpFMA, 0, args{iv(0, 0), entire, one}, one, api.Dac},
		{api.OpFMA, 0, args{one, one, empty}, empty, api.Trv},
		{api.OpPown, 0, args{iv(2, 3)}, one, api.Com},
		{api.OpPown, 0, args{entire}, one, api.Dac},
		{api.OpPown, 0, args{empty}, empty, api.Trv},
		{api.OpPown, 2, args{iv(-2, 3)}, iv(0, 9), api.Com},
		{api.OpPown, 3, args{iv(-2, 3)}, iv(-8, 27), api.Com},
		{api.OpPown, -2, args{iv(1, 2)}, iv(0.25, 1), api.Com},
		{api.OpPown, -3, args{iv(-2, -1)}, iv(-1, -0.125), api.Com},
		{api.OpPown, -2, args{iv(0, 0)}, empty, api.Trv},
		{api.OpPown, -3, args{iv(-1, 1)}, entire, api.Trv},
		{api.OpPown, 1024, args{one}, one, api.Com},
		{api.OpPown, 1024, args{iv(2, 2)}, iv(greatest, inf), api.Dac},
		{api.OpPown, 1023, args{iv(2, 2)}, iv(0x1p1023, 0x1p1023), api.Com},
		{api.OpPown, -1024, args{one}, one, api.Com},
		{api.OpPown, -1024, args{iv(2, 2)}, iv(0x1p-1024, 0x1p-1024), api.Com},
		{api.OpPown, -1025, args{one}, entire, api.Trv},
		{api.OpPown, 1025, args{empty}, empty, api.Trv},
		{api.OpAbs, 0, args{iv(-inf, 2)}, iv(0, inf), api.Dac},
		{api.OpMin, 0, args{line, iv(0, 5)}, iv(0, 5), api.Dac},
		{api.OpMin, 0, args{iv(2, 7), iv(0, 5)}, iv(0, 5), api.Com},
		{api.OpMax, 0, args{iv(2, 7), iv(0, 5)}, iv(2, 7), api.Com},
		{api.OpMax, 0, args{iv(2, 7), empty}, empty, api.Trv},
		{api.OpSign, 0, args{iv(0, 1)}, iv(0, 1), api.Def},
		{api.OpSign, 0, args{line}, one, api.Dac},
		{api.OpSign, 0, args{iv(least, 5)}, one, api.Com},
		{api.OpSign, 0, args{entire}, iv(-1, 1), api.Def},
		{api.OpFloor, 0, args{max}, max, api.Com},
		{api.OpFloor, 0, args{iv(greatest, inf)}, iv(greatest, inf), api.Def},
		{api.OpFloor, 0, args{iv(-inf, -greatest)}, iv(-inf, -greatest), api.Def},
		{api.OpFloor, 0, args{empty}, empty, api.Trv},
		{api.OpCeil, 0, args{iv(1, above(1))}, iv(1, 2), api.Def},
		{api.OpCeil, 0, args{iv(above(1), 2)}, iv(2, 2), api.Com},
		{api.OpCeil, 0, args{iv(below(0), 0)}, iv(0, 0), api.Com},
		{api.OpTrunc, 0, args{iv(below(1), 1)}, iv(0, 1), api.Def},
		{api.OpTrunc, 0, args{iv(-0.75, 0.75)}, iv(0, 0), api.Com},
		{api.OpRoundEven, 0, args{iv(1.5, 2.5)}, iv(2, 2), api.Com},
		{api.OpRoundEven, 0, args{iv(0.5, above(0.5))}, iv(0, 1), api.Def},
		{api.OpRoundAway, 0, args{iv(1.5, below(2.5))}, iv(2, 2), api.Com},
		{api.OpRoundAway, 0, args{iv(1.5, 2.5)}, iv(2, 3), api.Def},
		{api.OpRoundAway, 0, args{iv(below(-0.5), -0.5)}, iv(-1, -1), api.Com},
	} {
		checkRow(t, row.op, row.n, row.args, row.want, row.d)
	}
}
