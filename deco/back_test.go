package deco_test

import (
	"math"
	"testing"

	"verge/api"
	"verge/deco"
)

// P11.6.

// All signs at every place of every operation, and all ways in which an end may be 0 or infinite.
func TestBackOfAllSigns(t *testing.T) {
	many := [][]api.Interval{proper(-inf, -2, -1, 0, 1, 3, inf), proper(-inf, -1, 0, 2, inf), append(proper(-2, 0, 3), iv(-inf, -1), iv(1, inf), entire)}
	for _, f := range operations() {
		few := many[f.operands-1]
		for place := range f.operands {
			eachList(f.operands+1, few, func(list []api.Interval) { f.checkBack(t, place, list[0], list[1], list[2:]...) })
		}
	}
}

func TestBackByChance(t *testing.T) {
	d := dice(11030)
	for _, f := range operations() {
		for place := range f.operands {
			for range 500 {
				c, others := d.interval(), list(f.operands-1, d.interval)
				f.checkBack(t, place, c, d.interval(), others...)
				f.checkBack(t, place, c, entire, others...)
				f.checkBack(t, place, c, d.narrow(), others...)
				f.checkBack(t, place, d.wild(), d.wild(), list(f.operands-1, d.wild)...)
			}
		}
	}
}

// Wrong ends, and the greatest and the least: all pairs of ends for each argument in its turn.
func TestBackOfEdges(t *testing.T) {
	d := dice(11031)
	for _, f := range operations() {
		for place := range f.operands {
			for at := range f.operands + 1 {
				args := list(f.operands+1, d.interval)
				for _, x := range crossed(edges()) {
					args[at] = x
					f.checkBack(t, place, args[0], args[1], args[2:]...)
				}
			}
		}
	}
}

// Powers up to the limits, and beyond: there x is left as it is read, whatever c is.
func TestBackOfPowers(t *testing.T) {
	d := dice(11032)
	for _, n := range []int{-1024, -1023, -17, -6, 5, 16, 1023, 1024} {
		for range 20 {
			power(n).checkBack(t, 0, d.interval(), d.interval())
		}
	}
	for _, n := range beyond() {
		for range 20 {
			for _, c := range []api.Interval{d.wild(), empty, entire, iv(1, 2)} {
				x := d.wild()
				got, ok := deco.Back(api.OpPown, n, 0, c, x)
				is(t, got, read(x), "Pown %d back: %x, %x", n, c, x)
				if !ok {
					t.Errorf("Pown %d back: false", n)
				}
			}
		}
	}
}

func checkNoBack(t *testing.T, op, n, place int, c, x api.Interval, others []api.Interval) {
	t.Helper()
	got, ok := deco.Back(op, n, place, c, x, others...)
	is(t, got, empty, "Back(%d, %d, %d, %x, %x, %x)", op, n, place, c, x, others)
	if ok {
		t.Errorf("Back(%d, %d, %d, %x, %x, %x): true", op, n, place, c, x, others)
	}
	decos := make([]api.Deco, len(others))
	for i, other := range others {
		decos[i] = deco.New(other)
	}
	isDeco(t, deco.BackDeco(op, n, place, deco.New(c), deco.New(x), decos...), nai, "BackDeco(%d, %d, %d, %x, %x, %x)", op, n, place, c, x, others)
}

func places() []int {
	return []int{math.MinInt, -1 << 31, -3, -2, -1, 0, 1, 2, 3, 4, 256, 1<<31 - 1, math.MaxInt}
}

func TestNoBack(t *testing.T) {
	d := dice(11033)
	for _, op := range strangers() {
		for _, place := range places() {
			for count := range 5 {
				checkNoBack(t, op, 2, place, d.interval(), d.interval(), list(count, d.interval))
				checkNoBack(t, op, 0, place, entire, iv(1, 2), list(count, d.wild))
			}
		}
	}
	for _, f := range append(operations(), power(1025), power(-1025)) {
		for _, place := range places() {
			for _, count := range []int{0, 1, 2, 3, 4, 5, 300} {
				if place < 0 || place >= f.operands || count != f.operands-1 {
					checkNoBack(t, f.op, f.n, place, entire, entire, list(count, d.interval))
					checkNoBack(t, f.op, f.n, place, d.wild(), d.wild(), list(count, d.wild))
				}
			}
		}
	}
}

func TestBackDeco(t *testing.T) {
	d := dice(11034)
	for _, f := range append(operations(), power(1025), power(-1025)) {
		for place := range f.operands {
			for range 500 {
				f.checkBackDeco(t, place, d.decorated(), d.decorated(), list(f.operands-1, d.decorated)...)
				f.checkBackDeco(t, place, d.strange(), d.strange(), list(f.operands-1, d.strange)...)
			}
		}
	}
}

// NaI as each argument, whatever the others are.
func TestBackDecoOfNaI(t *testing.T) {
	d := dice(11035)
	for _, f := range append(operations(), power(1025), power(-1025)) {
		for place := range f.operands {
			for at := range f.operands + 1 {
				for _, ill := range ills() {
					args := list(f.operands+1, d.decorated)
					args[at] = ill
					isDeco(t, deco.BackDeco(f.op, f.n, place, args[0], args[1], args[2:]...), nai, "%s %d, %d: %x", f.name, f.n, place, args)
				}
			}
		}
	}
}

func TestBackWrittenOut(t *testing.T) {
	type args = []api.Interval
	five, all := iv(5, 5), entire
	for _, row := range []struct {
		op, n, place int
		c, x         api.Interval
		others       args
		want         api.Interval
	}{
		{api.OpId, 0, 0, iv(1, 3), iv(2, 4), nil, iv(2, 3)},
		{api.OpNeg, 0, 0, iv(1, 3), iv(-2, 4), nil, iv(-2, -1)},
		{api.OpAdd, 0, 0, five, iv(0, 4), args{iv(3, 9)}, iv(0, 2)},
		{api.OpAdd, 0, 1, five, iv(3, 9), args{iv(0, 4)}, iv(3, 5)},
		{api.OpSub, 0, 0, five, all, args{iv(1, 2)}, iv(6, 7)},
		{api.OpSub, 0, 1, iv(1, 2), all, args{five}, iv(3, 4)},
		{api.OpMul, 0, 0, iv(4, 4), iv(0, 8), args{iv(1, 2)}, iv(2, 4)},
		{api.OpMul, 0, 1, iv(4, 4), iv(0, 8), args{iv(1, 2)}, iv(2, 4)},
		{api.OpDiv, 0, 0, iv(2, 2), all, args{iv(3, 4)}, iv(6, 8)},
		{api.OpDiv, 0, 1, iv(2, 2), all, args{iv(4, 6)}, iv(2, 3)},
		{api.OpDiv, 0, 1, iv(0, 0), iv(0, 5), args{iv(0, 1)}, iv(0, 5)},
		{api.OpDiv, 0, 1, iv(0, 0), iv(0, 0), args{iv(0, 1)}, empty},
		{api.OpRecip, 0, 0, iv(0, 2), all, nil, iv(0.5, inf)},
		{api.OpSqr, 0, 0, iv(4, 9), iv(0, 2.5), nil, iv(2, 2.5)},
		{api.OpSqrt, 0, 0, iv(-2, 3), all, nil, iv(0, 9)},
		{api.OpFMA, 0, 0, iv(5, 7), all, args{iv(2, 2), iv(1, 1)}, iv(2, 3)},
		{api.OpFMA, 0, 1, iv(5, 7), all, args{iv(2, 2), iv(1, 1)}, iv(2, 3)},
		{api.OpFMA, 0, 2, iv(5, 7), all, args{iv(2, 2), iv(3, 3)}, iv(-1, 1)},
		{api.OpPown, 3, 0, iv(-8, 27), all, nil, iv(-2, 3)},
		{api.OpPown, -2, 0, iv(0.25, 1), all, nil, iv(-2, 2)},
		{api.OpPown, 0, 0, iv(1, 1), iv(3, 4), nil, iv(3, 4)},
		{api.OpPown, 0, 0, iv(2, 3), iv(3, 4), nil, empty},
		{api.OpPown, 1025, 0, empty, iv(signed, 4), nil, iv(0, 4)},
		{api.OpPown, -1025, 0, iv(1, 1), iv(3, 2), nil, empty},
		{api.OpAbs, 0, 0, iv(1, 2), iv(0, 5), nil, iv(1, 2)},
		{api.OpMin, 0, 0, iv(2, 3), iv(-9, 9), args{iv(5, 6)}, iv(2, 3)},
		{api.OpMin, 0, 1, iv(2, 3), iv(-9, 9), args{iv(1, 2)}, iv(2, 9)},
		{api.OpMax, 0, 0, iv(0, 1), iv(-9, 9), args{iv(1, 2)}, iv(-9, 1)},
		{api.OpMax, 0, 1, iv(3, 4), iv(-9, 9), args{iv(1, 2)}, iv(3, 4)},
		{api.OpSign, 0, 0, iv(1, 1), iv(0, 5), nil, iv(0, 5)},
		{api.OpSign, 0, 0, iv(1, 1), iv(-5, 0), nil, empty},
		{api.OpFloor, 0, 0, iv(1, 2.5), all, nil, iv(1, 3)},
		{api.OpCeil, 0, 0, iv(1, 2.5), all, nil, iv(0, 2)},
		{api.OpTrunc, 0, 0, iv(0, 0), all, nil, iv(-1, 1)},
		{api.OpRoundEven, 0, 0, iv(2, 2), iv(1, 1.5), nil, iv(1.5, 1.5)},
		{api.OpRoundAway, 0, 0, iv(1, 1), iv(0, 0.5), nil, iv(0.5, 0.5)},
		{api.OpAdd, 0, 0, five, iv(4, 0), args{iv(3, 9)}, empty},
		{api.OpAdd, 0, 0, empty, iv(0, 4), args{iv(3, 9)}, empty},
		{api.OpAdd, 0, 0, five, iv(0, 4), args{iv(nan, 9)}, empty},
	} {
		got, ok := deco.Back(row.op, row.n, row.place, row.c, row.x, row.others...)
		is(t, got, row.want, "Back(%d, %d, %d, %x, %x, %x)", row.op, row.n, row.place, row.c, row.x, row.others)
		if !ok {
			t.Errorf("Back(%d, %d, %d, ..): false", row.op, row.n, row.place)
		}
	}
}
