package fbit_test

import (
	"math"
	"testing"

	"verge/api"
	"verge/fbit"
)

func TestSplit(t *testing.T) {
	eachKind(t, testSplit[float64], testSplit[float32], testSplit[mine64], testSplit[mine32], testSplit[loud64])
}

func testSplit[F fbit.Float](t *testing.T) {
	f := formatOf[F]()
	for _, x := range many[F]() {
		if x == inf[F]() || x == -inf[F]() {
			continue
		}
		neg, sig, exp, ok := fbit.Split(x)
		if !ok || neg != (x < 0) || exactly(neg, sig, exp).Cmp(exactly(false, 1, 0).SetFloat64(float64(x))) != 0 {
			t.Errorf("P1.7: Split(%v) = %v, %d, %d, %v is another number", float64(x), neg, sig, exp, ok)
		}
		full := sig >= f.full && sig < 2*f.full && exp >= f.least && exp <= f.top
		if !full && !(sig < f.full && exp == f.least) {
			t.Errorf("P1.7: Split(%v) = %v, %d, %d: not the s and the e of the chapter", float64(x), neg, sig, exp)
		}
	}
	for _, x := range []F{0, minusZero[F]()} {
		if neg, sig, exp, ok := fbit.Split(x); neg || sig != 0 || exp != f.least || !ok {
			t.Errorf("P1.7: Split of the bits %#x = %v, %d, %d, %v", toBits(x), neg, sig, exp, ok)
		}
	}
	for _, x := range append(nans[F](), inf[F](), -inf[F]()) {
		if neg, sig, exp, ok := fbit.Split(x); neg || sig != 0 || exp != 0 || ok {
			t.Errorf("P1.7: Split(%v) = %v, %d, %d, %v", float64(x), neg, sig, exp, ok)
		}
	}
	for _, c := range []struct {
		bits uint64
		sig  uint64
		exp  int
	}{
		{1, 1, f.least},
		{f.leastNormal - 1, f.full - 1, f.least},
		{f.leastNormal, f.full, f.least},
		{2*f.leastNormal - 1, 2*f.full - 1, f.least},
		{2 * f.leastNormal, f.full, f.least + 1},
		{f.infinity - 1, 2*f.full - 1, f.top},
	} {
		x := fromBits[F](c.bits)
		if neg, sig, exp, ok := fbit.Split(x); neg || sig != c.sig || exp != c.exp || !ok {
			t.Errorf("P1.7: Split(%v) = %v, %d, %d, %v; want %d, %d", float64(x), neg, sig, exp, ok, c.sig, c.exp)
		}
		if neg, sig, exp, ok := fbit.Split(-x); !neg || sig != c.sig || exp != c.exp || !ok {
			t.Errorf("P1.7: Split(%v) = %v, %d, %d, %v; want %d, %d", float64(-x), neg, sig, exp, ok, c.sig, c.exp)
		}
	}
}

func TestJoin(t *testing.T) {
	eachKind(t, testJoin[float64], testJoin[float32], testJoin[mine64], testJoin[mine32], testJoin[loud64])
}

// checkJoin holds Join against reals of the library; sig is not 0, and exp small enough for these.
func checkJoin[F fbit.Float](t *testing.T, sig uint64, exp int) {
	t.Helper()
	for _, neg := range []bool{false, true} {
		want, exact := nearest[F](exactly(neg, sig, exp))
		e := api.OK
		if !exact {
			want, e = 0, api.ErrArg
		}
		if x, got := fbit.Join[F](neg, sig, exp); !same(x, want) || got != e {
			t.Errorf("P1.8: Join(%v, %d, %d) = %v, %v; want %v, %v", neg, sig, exp, float64(x), got, float64(want), e)
		}
	}
}

// significands tells powers of 2, full ones, those with a bit too many, and any others.
func significands(d *dice) []uint64 {
	var l []uint64
	for k := range 64 {
		p := uint64(1) << k
		l = append(l, p, p+1, 2*p-1, p|p>>23, p|p>>24, p|p>>52, p|p>>53, p-p>>24, p-p>>25, p-p>>53, p-p>>54)
	}
	for range 100 {
		l = append(l, d.next()>>(d.next()%64)|1, d.next()<<(d.next()%64)|1<<63)
	}
	return append(l, math.MaxUint64, math.MaxUint64-1, 1<<63, 3<<62)
}

func testJoin[F fbit.Float](t *testing.T) {
	f := formatOf[F]()
	d := dice(8)
	for _, sig := range significands(&d) {
		if sig == 0 {
			continue
		}
		for side := -70; side <= 70; side++ { // about the least, the middle, the top
			checkJoin[F](t, sig, f.least+side)
			checkJoin[F](t, sig, f.top+side)
		}
		checkJoin[F](t, sig, 0)
		checkJoin[F](t, sig, int(d.next()%4400)-2200)
	}
	far := []int{math.MaxInt, math.MaxInt - 1, math.MaxInt - 63, math.MaxInt - 64, math.MinInt, math.MinInt + 1, math.MinInt + 63, math.MinInt + 1074, 1 << 31, -1 << 31, 1 << 32, -1 << 32, 1<<32 - 1, 5000, -5000}
	for _, exp := range far {
		for _, sig := range []uint64{1, 2, 3, 1 << 23, 1 << 24, 1 << 52, 1<<53 - 1, 1 << 63, math.MaxUint64} {
			for _, neg := range []bool{false, true} {
				if x, e := fbit.Join[F](neg, sig, exp); toBits(x) != 0 || e != api.ErrArg {
					t.Errorf("P1.8: Join(%v, %d, %d) = %v, %v; want ErrArg", neg, sig, exp, float64(x), e)
				}
			}
		}
	}
	for _, exp := range append(far, 0, 5, f.least, f.least-1, f.top, f.top+1) {
		for _, neg := range []bool{false, true} {
			if x, e := fbit.Join[F](neg, 0, exp); toBits(x) != 0 || e != api.OK {
				t.Errorf("P1.8: Join(%v, 0, %d) = %v (bits %#x), %v; want 0", neg, exp, float64(x), toBits(x), e)
			}
		}
	}
}
