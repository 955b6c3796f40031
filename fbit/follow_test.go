package fbit_test

import (
	"math"
	"sync"
	"testing"

	"verge/api"
	"verge/fbit"
)

func TestWhatFollows(t *testing.T) {
	eachKind(t, testFollows[float64], testFollows[float32], testFollows[mine64], testFollows[mine32], testFollows[loud64])
}

func testFollows[F fbit.Float](t *testing.T) {
	for _, x := range many[F]() {
		p, _ := fbit.Place(x)
		if y, ok := fbit.At[F](p); !ok || !same(y, fbit.Plain(x)) {
			t.Errorf("P1.11: At(Place(%v)) = %v, %v", float64(x), float64(y), ok)
		}
		if q, ok := fbit.Place(fbit.NextUp(x)); x != inf[F]() && (!ok || q != p+1) {
			t.Errorf("P1.11: the place of NextUp(%v) = %d, %v; that of x is %d", float64(x), q, ok, p)
		}
		if neg, sig, exp, ok := fbit.Split(x); ok {
			if y, e := fbit.Join[F](neg, sig, exp); e != api.OK || !same(y, fbit.Plain(x)) {
				t.Errorf("P1.11: Join of Split(%v) = %v, %v", float64(x), float64(y), e)
			}
		}
	}
	followsSplitJoin[F](t)
	followsOrder[F](t)
	followsOf[F](t)
}

func followsSplitJoin[F fbit.Float](t *testing.T) {
	f := formatOf[F]()
	d := dice(11)
	check := func(neg bool, sig uint64, exp int) {
		x, e := fbit.Join[F](neg, sig, exp)
		n, s, k, ok := fbit.Split(x)
		if e != api.OK || !ok || n != (neg && sig != 0) || s != sig || k != exp {
			t.Errorf("P1.11: Split of Join(%v, %d, %d) = %v, %d, %d, %v (Join: %v)", neg, sig, exp, n, s, k, ok, e)
		}
	}
	for _, neg := range []bool{false, true} {
		for range 2000 {
			exp := f.least + int(d.next()%uint64(f.top-f.least+1))
			check(neg, f.full+d.next()%f.full, exp)
			check(neg, d.next()%f.full, f.least)
		}
		for _, sig := range []uint64{0, 1, f.full - 1, f.full, 2*f.full - 1} {
			check(neg, sig, f.least)
		}
		for _, exp := range []int{f.least + 1, 0, f.top} {
			check(neg, f.full, exp)
			check(neg, 2*f.full-1, exp)
		}
	}
}

func followsOrder[F fbit.Float](t *testing.T) {
	l := append(row[F](), nans[F]()...)
	for _, a := range l {
		p, aPlaced := fbit.Place(a)
		for _, b := range l {
			q, bPlaced := fbit.Place(b)
			rise := aPlaced && bPlaced && p < q
			noughts := toBits(a) == formatOf[F]().sign && toBits(b) == 0
			if o := fbit.Order(a, b); (o == -1) != (rise || noughts || aPlaced && !bPlaced) {
				t.Errorf("P1.11: Order(%v, %v) = %d, places %d, %d", float64(a), float64(b), o, p, q)
			}
		}
	}
}

func followsOf[F fbit.Float](t *testing.T) {
	d := dice(12)
	for range 5000 {
		n := int64(d.next()) >> (d.next() % 64)
		if x, exact := fbit.Of[F](n); exact {
			if back, ok := fbit.Whole(x); back != n || !ok {
				t.Errorf("P1.11: Whole(Of(%d)) = %d, %v", n, back, ok)
			}
		}
	}
}

// told is all that the calls say of two numbers, a place and an integer, as plain values that can be compared.
type told struct {
	class, order, exp                    int
	plain, up, down, at, joined, nearest uint64
	place, steps, whole                  int64
	sig                                  uint64
	neg, placed, there, near, split      bool
	isWhole, exact                       bool
	e                                    api.Errno
}

// bitsOrNaN tells the bits of x, and the same for all NaN.
func bitsOrNaN[F fbit.Float](x F) uint64 {
	if x != x {
		return math.MaxUint64
	}
	return toBits(x)
}

func tell[F fbit.Float](a, b F, n int64, exp int) told {
	var r told
	var x F
	r.class, r.order = fbit.Class(a), fbit.Order(a, b)
	r.plain, r.up, r.down = bitsOrNaN(fbit.Plain(a)), bitsOrNaN(fbit.NextUp(a)), bitsOrNaN(fbit.NextDown(a))
	r.place, r.placed = fbit.Place(a)
	x, r.there = fbit.At[F](n)
	r.at = toBits(x)
	r.steps, r.near = fbit.Steps(a, b)
	r.neg, r.sig, r.exp, r.split = fbit.Split(a)
	x, r.e = fbit.Join[F](n < 0, uint64(n), exp)
	r.joined = toBits(x)
	r.whole, r.isWhole = fbit.Whole(a)
	x, r.exact = fbit.Of[F](n)
	r.nearest = toBits(x)
	return r
}

// tellAll tells it of the row and NaN, each beside each, with integers of all lengths.
func tellAll[F fbit.Float]() []told {
	d := dice(13)
	var l []told
	numbers := append(row[F](), nans[F]()...)
	for i, a := range numbers {
		for j, b := range numbers {
			n := int64(d.next()) >> ((i + j) % 64)
			l = append(l, tell(a, b, n, i-j))
		}
	}
	return l
}

func checkTold(t *testing.T, what string, got, want []told) {
	t.Helper()
	if len(got) != len(want) {
		t.Fatalf("P1.12: %s: %d answers, want %d", what, len(got), len(want))
	}
	for i := range got {
		if got[i] != want[i] {
			t.Errorf("P1.12: %s: answers %d are %v, want %v", what, i, got[i], want[i])
		}
	}
}

func TestOwnNames(t *testing.T) {
	wide, narrow := tellAll[float64](), tellAll[float32]()
	checkTold(t, "mine64 against float64", tellAll[mine64](), wide)
	checkTold(t, "loud64 against float64", tellAll[loud64](), wide)
	checkTold(t, "mine32 against float32", tellAll[mine32](), narrow)
}

func TestArgumentsAlone(t *testing.T) {
	wide, narrow := tellAll[float64](), tellAll[float32]()
	checkTold(t, "float64 once more", tellAll[float64](), wide)
	checkTold(t, "float32 once more", tellAll[float32](), narrow)
	var wides, narrows [4][]told
	var group sync.WaitGroup
	for i := range wides {
		group.Go(func() { wides[i] = tellAll[float64]() })
		group.Go(func() { narrows[i] = tellAll[float32]() })
	}
	group.Wait()
	for i := range wides {
		checkTold(t, "float64 beside others", wides[i], wide)
		checkTold(t, "float32 beside others", narrows[i], narrow)
	}
}
