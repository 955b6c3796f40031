package nat_test

import (
	"math/big"
	"slices"
	"testing"

	"verge/api"
	"verge/nat"
)

// divided fails the test, unless Quo(a, b) is what it must be.
func divided(t *testing.T, a, b []uint32) {
	t.Helper()
	q, r, e := nat.Quo(a, b)
	if value(b).Sign() == 0 {
		if e != api.ErrArg || len(q) != 0 || len(r) != 0 {
			t.Fatalf("Quo(%x, %x) = %x, %x, %d", a, b, q, r, e)
		}
		return
	}
	wantQ, wantR := new(big.Int).QuoRem(value(a), value(b), new(big.Int))
	if e != api.OK || !is(q, wantQ) || !is(r, wantR) {
		t.Fatalf("Quo(%x, %x) = %x, %x, %d, want %x, %x", a, b, q, r, e, list(wantQ), list(wantR))
	}
}

// P2.6

func TestQuo(t *testing.T) {
	eachPair(func(a, b []uint32) { divided(t, a, b) })
}

// The words of b and of the quotient are chosen so that trials of the highest words alone are too
// great: by one, by two, and so that only the whole of b shows it.
func TestQuoTrials(t *testing.T) {
	w := []uint32{0, 1, 2, 1<<31 - 1, 1 << 31, 1<<31 + 1, m - 1, m}
	for _, high := range w {
		for _, next := range w {
			for _, low := range w {
				b := words(low, next, high)
				for _, q := range w {
					near(t, b, words(q, 1))
					near(t, b, words(m, q))
				}
			}
		}
	}
	for _, c := range [][2][]uint32{
		{{0, 0, 1 << 31}, {1, 1 << 31}},                // the first guess is 2^32
		{{0, m, 1 << 31}, {m, 1 << 31}},                // 2^32 + 1
		{{3, 0, 1 << 31}, {1, 0, 1 << 29}},             // seen by the lowest word alone
		{{0, 0, 1 << 15, 1<<15 - 1}, {1, 0, 1 << 15}},  // likewise
		{{0, 0, m - 1, m}, {m, 0, m}},                  // likewise
		{{0, m - 1, 1 << 31}, {m, 1 << 31}},            // two steps down
		{{0, 0, 1 << 31, 1<<31 - 1}, {1, 0, 1 << 31}},  // with a quotient of two words
		{{m, m, m, m, m, m}, {m, m, m}},                // all bits 1
		{{0, 0, 0, 0, 0, 0, 1}, {m, m, m}},             // one bit
		{{0, 0, 0, 0, 0, 0, 1}, {1, 0, 0, 1}},          // one bit and another
		{{m, m, m, 0, 0, 0, 1}, {m, m, m, 1, 0, 0, 0}}, // words 0 behind b
	} {
		divided(t, c[0], c[1])
	}
}

// near divides q times b, and the numbers next to it, by b.
func near(t *testing.T, b, q []uint32) {
	t.Helper()
	v := new(big.Int).Mul(value(b), value(q))
	for _, d := range []int64{-1, 0, 1} {
		if a := new(big.Int).Add(v, big.NewInt(d)); a.Sign() >= 0 {
			divided(t, list(a), b)
		}
	}
	all := new(big.Int).Add(v, value(b))
	if all.Sign() > 0 {
		divided(t, list(all.Sub(all, big.NewInt(1))), b)
	}
}

func TestQuoLong(t *testing.T) {
	d := dice(6)
	x := full(api.MaxNat)
	for _, b := range [][]uint32{words(1), words(m), words(0, 1), full(2), full(900), full(api.MaxNat - 1), x, d.list(700), one(9999)} {
		divided(t, x, b)
		divided(t, one(maxBits-1), b)
		divided(t, b, x)
	}
}

// P2.7

// rooted fails the test, unless Root(a) is what it must be.
func rooted(t *testing.T, a []uint32) {
	t.Helper()
	s, exact, e := nat.Root(a)
	v := value(a)
	want := new(big.Int).Sqrt(v)
	square := new(big.Int).Mul(want, want).Cmp(v) == 0
	if e != api.OK || !is(s, want) || exact != square {
		t.Fatalf("Root(%x) = %x, %v, %d, want %x, %v", a, s, exact, e, list(want), square)
	}
}

func TestRoot(t *testing.T) {
	for _, a := range lists(3000) {
		rooted(t, a)
	}
	for v := range uint64(3000) {
		rooted(t, nat.Small(v))
	}
}

// Squares, and the numbers next to them, of all lengths.
func TestRootOfSquares(t *testing.T) {
	roots := lists(1500)
	for n := range 400 {
		p := new(big.Int).Lsh(big.NewInt(1), uint(n))
		roots = append(roots, list(p), list(new(big.Int).Sub(p, big.NewInt(1))), list(new(big.Int).Add(p, big.NewInt(1))))
	}
	for _, s := range roots {
		v := value(s)
		v.Mul(v, v)
		for _, d := range []int64{-1, 0, 1} {
			if a := new(big.Int).Add(v, big.NewInt(d)); a.Sign() >= 0 {
				rooted(t, list(a))
			}
		}
	}
}

func TestRootLong(t *testing.T) {
	d := dice(7)
	h := full(api.MaxNat / 2)
	square, e := nat.Mul(h, h)
	good(t, e)
	for _, a := range [][]uint32{full(api.MaxNat), one(maxBits - 1), one(maxBits - 2), square, d.list(5000), full(4097)} {
		rooted(t, a)
	}
	if s, exact, e := nat.Root(square); !slices.Equal(s, h) || !exact || e != api.OK {
		t.Errorf("the root of the greatest square: %d words, %v, %d", len(s), exact, e)
	}
	square[0]--
	if s, exact, e := nat.Root(square); len(s) != len(h) || s[0] != m-1 || exact || e != api.OK {
		t.Errorf("next to the greatest square: %d words, %v, %d", len(s), exact, e)
	}
}

// P2.8

func TestPow(t *testing.T) {
	for _, a := range lists(100) {
		for n := range 20 {
			got, e := nat.Pow(a, n)
			if want := new(big.Int).Exp(value(a), big.NewInt(int64(n)), nil); e != api.OK || !is(got, want) {
				t.Fatalf("Pow(%x, %d) = %x, %d", a, n, got, e)
			}
		}
	}
	for n := range 700 {
		for _, a := range []uint64{2, 3, 5, 10} {
			got, e := nat.Pow(nat.Small(a), n)
			if want := new(big.Int).Exp(new(big.Int).SetUint64(a), big.NewInt(int64(n)), nil); e != api.OK || !is(got, want) {
				t.Fatalf("Pow(%d, %d) = %x, %d", a, n, got, e)
			}
		}
	}
}

func TestPowOfNoneAndOne(t *testing.T) {
	for _, n := range []int{1, 2, 3, 524287, 524288, 1 << 31, maxInt - 1, maxInt} {
		for _, a := range [][]uint32{nil, {0}, {0, 0}, {1}, {1, 0, 0}} {
			if got, e := nat.Pow(a, n); e != api.OK || !is(got, value(a)) {
				t.Errorf("Pow(%x, %d) = %x, %d", a, n, got, e)
			}
		}
	}
	for _, a := range append(edges(), full(api.MaxNat), behind(full(api.MaxNat), 2)) {
		if got, e := nat.Pow(a, 0); e != api.OK || !slices.Equal(got, words(1)) {
			t.Errorf("Pow(%d words, 0) = %x, %d", len(a), got, e)
		}
	}
}

// The greatest power that is not too long, and the next one.
func TestPowAtTheLimit(t *testing.T) {
	for _, a := range [][]uint32{{2}, {3}, {10}, {m}, {0, 1}, {m, m}, {1, 0, 1}, one(1000), full(100), full(api.MaxNat / 2), full(api.MaxNat/2 + 1), one(maxBits / 2), full(api.MaxNat)} {
		v := value(a)
		n := greatestPower(v)
		got, e := nat.Pow(a, n)
		if want := new(big.Int).Exp(v, big.NewInt(int64(n)), nil); e != api.OK || want.BitLen() > maxBits || !is(got, want) {
			t.Errorf("Pow(%d words, %d): %d words, %d", len(a), n, len(got), e)
		}
		for _, n := range []int{n + 1, n + 2, 2*n + 1, 3 * n, 1 << 31, 1 << 32, maxInt - 1, maxInt} {
			if got, e := nat.Pow(a, n); e != api.ErrLong || len(got) != 0 {
				t.Errorf("Pow(%d words, %d): %d words, %d", len(a), n, len(got), e)
			}
		}
	}
}

// greatestPower tells the greatest n with v^n below 2^maxBits.
func greatestPower(v *big.Int) int {
	n := (maxBits - 1) / v.BitLen()
	p := new(big.Int).Exp(v, big.NewInt(int64(n)), nil)
	for step := 1 << 19; step > 0; step >>= 1 { // leaps of the power, as long as they stay below
		q := new(big.Int)
		if (v.BitLen()-1)*step >= maxBits {
			continue
		}
		for {
			q.Mul(p, new(big.Int).Exp(v, big.NewInt(int64(step)), nil))
			if q.BitLen() > maxBits {
				break
			}
			p.Set(q)
			n += step
		}
	}
	return n
}
