package fbit_test

import (
	"math"
	"math/big"
	"testing"

	"verge/api"
	"verge/fbit"
)

func TestClass(t *testing.T) {
	eachKind(t, testClass[float64], testClass[float32], testClass[mine64], testClass[mine32], testClass[loud64])
}

func testClass[F fbit.Float](t *testing.T) {
	f := formatOf[F]()
	for _, c := range []struct {
		first, last uint64 // bits, the sign apart
		above       int    // the class above 0
		below       int    // the class below 0
	}{
		{0, 0, api.ClassZero, api.ClassMinusZero},
		{1, f.leastNormal - 1, api.ClassSubnormal, api.ClassMinusSubnormal},
		{f.leastNormal, f.infinity - 1, api.ClassNormal, api.ClassMinusNormal},
		{f.infinity, f.infinity, api.ClassInf, api.ClassMinusInf},
		{f.infinity + 1, f.sign - 1, api.ClassNaN, api.ClassNaN},
	} {
		for _, b := range []uint64{c.first, c.first + (c.last-c.first)/3, c.last - (c.last-c.first)/5, c.last} {
			if got := fbit.Class(fromBits[F](b)); got != c.above {
				t.Errorf("P1.1: Class of the bits %#x = %d, want %d", b, got, c.above)
			}
			if got := fbit.Class(fromBits[F](b | f.sign)); got != c.below {
				t.Errorf("P1.1: Class of the bits %#x = %d, want %d", b|f.sign, got, c.below)
			}
		}
	}
	for _, x := range []F{1, 3.25, 1e-30, 1e30} {
		if got := fbit.Class(x); got != 7 {
			t.Errorf("P1.1: Class(%v) = %d, want 7", float64(x), got)
		}
		if got := fbit.Class(-x); got != 2 {
			t.Errorf("P1.1: Class(-%v) = %d, want 2", float64(x), got)
		}
	}
}

func TestPlain(t *testing.T) {
	eachKind(t, testPlain[float64], testPlain[float32], testPlain[mine64], testPlain[mine32], testPlain[loud64])
}

func testPlain[F fbit.Float](t *testing.T) {
	if x := fbit.Plain(minusZero[F]()); toBits(x) != 0 {
		t.Errorf("P1.2: Plain(-0) has the bits %#x", toBits(x))
	}
	for _, x := range many[F]() {
		if y := fbit.Plain(x); x != 0 && !same(y, x) || x == 0 && toBits(y) != 0 {
			t.Errorf("P1.2: Plain of the bits %#x has the bits %#x", toBits(x), toBits(y))
		}
	}
	for _, x := range nans[F]() {
		if y := fbit.Plain(x); y == y {
			t.Errorf("P1.2: Plain(NaN) = %v", float64(y))
		}
	}
}

func TestNext(t *testing.T) {
	eachKind(t, testNext[float64], testNext[float32], testNext[mine64], testNext[mine32], testNext[loud64])
}

// after tells the next number toward another, as the library knows it.
func after[F fbit.Float](x, toward F) F {
	if isWide[F]() {
		return F(math.Nextafter(float64(x), float64(toward)))
	}
	return F(math.Nextafter32(float32(x), float32(toward)))
}

func testNext[F fbit.Float](t *testing.T) {
	for _, x := range many[F]() {
		up, down := after(x, inf[F]())+0, after(x, -inf[F]())+0 // + 0: no answer is -0
		if got := fbit.NextUp(x); !same(got, up) {
			t.Errorf("P1.3: NextUp(%v) = %v, want %v", float64(x), float64(got), float64(up))
		}
		if got := fbit.NextDown(x); !same(got, down) {
			t.Errorf("P1.3: NextDown(%v) = %v, want %v", float64(x), float64(got), float64(down))
		}
	}
	for _, c := range []struct{ x, up, down F }{
		{0, tiny[F](), -tiny[F]()},
		{minusZero[F](), tiny[F](), -tiny[F]()},
		{-tiny[F](), 0, -2 * tiny[F]()},
		{tiny[F](), 2 * tiny[F](), 0},
		{most[F](), inf[F](), fromBits[F](formatOf[F]().infinity - 2)},
		{-most[F](), -fromBits[F](formatOf[F]().infinity - 2), -inf[F]()},
		{inf[F](), inf[F](), most[F]()},
		{-inf[F](), -most[F](), -inf[F]()},
	} {
		if up, down := fbit.NextUp(c.x), fbit.NextDown(c.x); !same(up, c.up) || !same(down, c.down) {
			t.Errorf("P1.3: NextUp, NextDown of %v = %v, %v; want %v, %v", float64(c.x), float64(up), float64(down), float64(c.up), float64(c.down))
		}
	}
	for _, x := range nans[F]() {
		if up, down := fbit.NextUp(x), fbit.NextDown(x); up == up || down == down {
			t.Errorf("P1.3: NextUp, NextDown of NaN (bits %#x) = %v, %v", toBits(x), float64(up), float64(down))
		}
	}
}

func TestOrder(t *testing.T) {
	eachKind(t, testOrder[float64], testOrder[float32], testOrder[mine64], testOrder[mine32], testOrder[loud64])
}

func testOrder[F fbit.Float](t *testing.T) {
	l := row[F]()
	for i, a := range l {
		for j, b := range l {
			want := 0
			if i < j {
				want = -1
			} else if i > j {
				want = 1
			}
			if got := fbit.Order(a, b); got != want {
				t.Errorf("P1.4: Order of the bits %#x, %#x = %d, want %d", toBits(a), toBits(b), got, want)
			}
		}
		for _, n := range nans[F]() {
			if ahead, behind := fbit.Order(a, n), fbit.Order(n, a); ahead != -1 || behind != 1 {
				t.Errorf("P1.4: Order of %v and NaN = %d, the other way %d", float64(a), ahead, behind)
			}
		}
	}
	for _, m := range nans[F]() {
		for _, n := range nans[F]() {
			if got := fbit.Order(m, n); got != 0 {
				t.Errorf("P1.4: Order of two NaN (bits %#x, %#x) = %d", toBits(m), toBits(n), got)
			}
		}
	}
}

func TestPlace(t *testing.T) {
	eachKind(t, testPlace[float64], testPlace[float32], testPlace[mine64], testPlace[mine32], testPlace[loud64])
}

func testPlace[F fbit.Float](t *testing.T) {
	for _, x := range many[F]() {
		want := place(x)
		if p, ok := fbit.Place(x); p != want || !ok {
			t.Errorf("P1.5: Place(%v) = %d, %v; want %d", float64(x), p, ok, want)
		}
		if y, ok := fbit.At[F](want); !same(y, x+0) || !ok {
			t.Errorf("P1.5: At(%d) = %v, %v; want %v", want, float64(y), ok, float64(x))
		}
	}
	for _, x := range nans[F]() {
		if p, ok := fbit.Place(x); p != 0 || ok {
			t.Errorf("P1.5: Place(NaN) = %d, %v", p, ok)
		}
	}
	last := int64(formatOf[F]().infinity)
	for _, p := range []int64{last + 1, last + 2, -last - 1, -last - 2, math.MaxInt64, math.MaxInt64 - 1, math.MinInt64, math.MinInt64 + 1} {
		if x, ok := fbit.At[F](p); toBits(x) != 0 || ok {
			t.Errorf("P1.5: At(%d) = %v, %v; there is none", p, float64(x), ok)
		}
	}
	if !isWide[F]() {
		for _, p := range []int64{1 << 32, -1 << 32, 1<<32 + 1, 1<<62 + 1065353216} {
			if x, ok := fbit.At[F](p); toBits(x) != 0 || ok {
				t.Errorf("P1.5: At(%d) in binary32 = %v, %v; there is none", p, float64(x), ok)
			}
		}
	}
}

func TestSteps(t *testing.T) {
	eachKind(t, testSteps[float64], testSteps[float32], testSteps[mine64], testSteps[mine32], testSteps[loud64])
}

func checkSteps[F fbit.Float](t *testing.T, a, b F) {
	t.Helper()
	d := new(big.Int).Sub(big.NewInt(place(b)), big.NewInt(place(a)))
	want, fits := int64(0), d.IsInt64()
	if fits {
		want = d.Int64()
	}
	if n, ok := fbit.Steps(a, b); n != want || ok != fits {
		t.Errorf("P1.6: Steps(%v, %v) = %d, %v; want %d, %v", float64(a), float64(b), n, ok, want, fits)
	}
}

func testSteps[F fbit.Float](t *testing.T) {
	l := row[F]()
	for _, a := range l {
		for _, b := range l {
			checkSteps(t, a, b)
		}
		for _, n := range nans[F]() {
			for _, pair := range [][2]F{{a, n}, {n, a}, {n, n}} {
				if s, ok := fbit.Steps(pair[0], pair[1]); s != 0 || ok {
					t.Errorf("P1.6: Steps(%v, %v) = %d, %v", float64(pair[0]), float64(pair[1]), s, ok)
				}
			}
		}
	}
	m := many[F]()
	for i := range m {
		checkSteps(t, m[i], m[len(m)-1-i])
	}
	x := -3 * tiny[F]()
	for n := range int64(7) {
		if s, ok := fbit.Steps(-3*tiny[F](), x); s != n || !ok {
			t.Errorf("P1.6: Steps = %d, %v where NextUp was asked %d times", s, ok, n)
		}
		x = fbit.NextUp(x)
	}
}

// TestStepsEnds: binary64 alone has numbers that lie 2^63 places apart.
func TestStepsEnds(t *testing.T) {
	far := int64(math.MaxInt64) - 9218868437227405312 // so many places below 0, +Inf is just near enough
	at := func(p int64) float64 { return math.Copysign(math.Float64frombits(uint64(max(p, -p))), float64(p)) }
	top := math.Inf(1)
	for _, c := range []struct {
		a, b float64
		n    int64
		ok   bool
	}{
		{at(-far), top, math.MaxInt64, true}, {at(-far - 1), top, 0, false}, {at(-far - 2), top, 0, false},
		{top, at(-far), -math.MaxInt64, true}, {top, at(-far - 1), math.MinInt64, true}, {top, at(-far - 2), 0, false},
		{-top, at(far), math.MaxInt64, true}, {-top, at(far + 1), 0, false}, {at(far + 1), -top, math.MinInt64, true}, {at(far + 2), -top, 0, false},
		{-top, top, 0, false}, {top, -top, 0, false},
	} {
		if n, ok := fbit.Steps(c.a, c.b); n != c.n || ok != c.ok {
			t.Errorf("P1.6: Steps(%v, %v) = %d, %v; want %d, %v", c.a, c.b, n, ok, c.n, c.ok)
		}
		if n, ok := fbit.Steps(mine64(c.a), mine64(c.b)); n != c.n || ok != c.ok {
			t.Errorf("P1.12: Steps(%v, %v) of a type of its own = %d, %v; want %d, %v", c.a, c.b, n, ok, c.n, c.ok)
		}
	}
}

func TestWhole(t *testing.T) {
	eachKind(t, testWhole[float64], testWhole[float32], testWhole[mine64], testWhole[mine32], testWhole[loud64])
}

func testWhole[F fbit.Float](t *testing.T) {
	check := func(x F) {
		var want int64
		whole := false
		if r := float64(x); !math.IsNaN(r) && !math.IsInf(r, 0) && r == math.Trunc(r) {
			n, _ := big.NewFloat(r).Int(nil)
			if whole = n.IsInt64(); whole {
				want = n.Int64()
			}
		}
		if n, ok := fbit.Whole(x); n != want || ok != whole {
			t.Errorf("P1.9: Whole(%v) = %d, %v; want %d, %v", float64(x), n, ok, want, whole)
		}
	}
	for _, x := range append(many[F](), nans[F]()...) {
		check(x)
	}
	edge := F(0x1p63)
	for _, x := range []F{3, 0.5, 1.5, 2.5, 1000000, 0x1p23, 0x1p23 + 0.5, 0x1p24, 0x1p52, 0x1p53, 0x1p62, edge, after(edge, 0), after(edge, inf[F]()), 2 * edge, tiny[F](), after(F(1), 0), after(F(1), 2)} {
		check(x)
		check(-x)
	}
	d := dice(9)
	for range 5000 { // magnitudes about 1 to 2^66, where wholes and others stand side by side
		x := F(float64(d.next())) * F(math.Ldexp(1, -int(d.next()%66)))
		check(x)
		check(-x)
	}
	for _, n := range []int64{0, 1, -1, 12345, -8388607} { // both formats have these
		if got, ok := fbit.Whole(F(n)); got != n || !ok {
			t.Errorf("P1.9: Whole(%d) = %d, %v", n, got, ok)
		}
	}
}

func TestOf(t *testing.T) {
	eachKind(t, testOf[float64], testOf[float32], testOf[mine64], testOf[mine32], testOf[loud64])
}

func testOf[F fbit.Float](t *testing.T) {
	check := func(n int64) {
		want, exact := nearest[F](new(big.Float).SetInt64(n))
		if x, ok := fbit.Of[F](n); !same(x, want) || ok != exact {
			t.Errorf("P1.10: Of(%d) = %v, %v; want %v, %v", n, float64(x), ok, float64(want), exact)
		}
	}
	for _, n := range []int64{0, 1, -1, 7, math.MaxInt64, math.MinInt64, math.MaxInt64 - 1, math.MinInt64 + 1} {
		check(n)
	}
	for k := range 63 { // powers of 2, the halves between numbers above them, and what lies beside
		for j := range k + 1 {
			for side := int64(-2); side <= 2; side++ {
				check(1<<k + 1<<j + side)
				check(-(1<<k + 1<<j + side))
				check(1<<k + 3<<j + side)
				check(-1<<k - 3<<j - side)
			}
		}
	}
	d := dice(10)
	for range 20000 {
		check(int64(d.next()) >> (d.next() % 64))
	}
	if x, _ := fbit.Of[F](0); toBits(x) != 0 {
		t.Errorf("P1.10: Of(0) has the bits %#x", toBits(x))
	}
}
