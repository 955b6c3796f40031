package nat_test

import (
	"math"
	"math/big"
	"slices"
	"testing"

	"verge/api"
	"verge/nat"
)

// P2.1

func TestNorm(t *testing.T) {
	for _, a := range lists(500) {
		for _, n := range []int{0, 1, 3, 40} {
			if got := nat.Norm(behind(a, n)); !is(got, value(a)) {
				t.Fatalf("Norm(%x and %d words 0) = %x", a, n, got)
			}
		}
	}
}

func TestSmall(t *testing.T) {
	d := dice(4)
	v := []uint64{0, 1, m - 1, m, m + 1, 1 << 63, 1<<63 - 1, math.MaxUint64, math.MaxUint64 - 1, m << 32}
	for range 1000 {
		v = append(v, d.next()>>d.below(64))
	}
	for _, v := range v {
		got := nat.Small(v)
		if !is(got, new(big.Int).SetUint64(v)) {
			t.Fatalf("Small(%d) = %x", v, got)
		}
		if back, ok := nat.Word(got); back != v || !ok {
			t.Fatalf("Word(Small(%d)) = %d, %v", v, back, ok)
		}
	}
}

func TestWord(t *testing.T) {
	for _, a := range lists(500) {
		v, want := value(a), uint64(0)
		if v.IsUint64() {
			want = v.Uint64()
		}
		for _, n := range []int{0, 1, 5} {
			if got, ok := nat.Word(behind(a, n)); got != want || ok != v.IsUint64() {
				t.Fatalf("Word(%x and %d words 0) = %d, %v", a, n, got, ok)
			}
		}
	}
}

// P2.2

func TestCmp(t *testing.T) {
	eachPair(func(a, b []uint32) {
		if got := nat.Cmp(a, b); got != value(a).Cmp(value(b)) {
			t.Fatalf("Cmp(%x, %x) = %d", a, b, got)
		}
	})
}

// Each word decides, if those above it are equal, whatever those below it are.
func TestCmpEachWord(t *testing.T) {
	for n := 1; n <= 6; n++ {
		for i := range n {
			a, b := slices.Repeat(words(7), n), slices.Repeat(words(7), n)
			a[i]++
			for j := range i {
				b[j] = m
			}
			if nat.Cmp(a, b) != 1 || nat.Cmp(b, a) != -1 || nat.Cmp(a, behind(a, 2)) != 0 {
				t.Fatalf("Cmp(%x, %x)", a, b)
			}
		}
	}
}

// P2.3

func TestBits(t *testing.T) {
	for _, a := range lists(500) {
		v := value(a)
		for _, n := range []int{0, 1, 5} {
			l := behind(a, n)
			if nat.Len(l) != v.BitLen() || nat.Zeros(l) != int(v.TrailingZeroBits()) {
				t.Fatalf("%x: Len %d, Zeros %d", l, nat.Len(l), nat.Zeros(l))
			}
		}
	}
	for n := range 200 {
		if nat.Len(one(n)) != n+1 || nat.Zeros(one(n)) != n {
			t.Fatalf("2^%d: Len %d, Zeros %d", n, nat.Len(one(n)), nat.Zeros(one(n)))
		}
	}
}

// The first six know no limit.
func TestBeyondTheLimit(t *testing.T) {
	a := one(maxBits + 77)
	b := behind(a, 3)
	if !slices.Equal(nat.Norm(b), a) || nat.Len(b) != maxBits+78 || nat.Zeros(b) != maxBits+77 {
		t.Errorf("Norm, Len %d, Zeros %d", nat.Len(b), nat.Zeros(b))
	}
	if v, ok := nat.Word(b); v != 0 || ok {
		t.Errorf("Word: %d, %v", v, ok)
	}
	c := slices.Clone(b)
	c[0] = 1
	if nat.Cmp(a, b) != 0 || nat.Cmp(c, b) != 1 || nat.Cmp(b, c) != -1 || nat.Cmp(full(api.MaxNat), b) != -1 {
		t.Errorf("Cmp")
	}
}

// P2.4

func TestAdd(t *testing.T) {
	eachPair(func(a, b []uint32) {
		got, e := nat.Add(a, b)
		if e != api.OK || !is(got, new(big.Int).Add(value(a), value(b))) {
			t.Fatalf("Add(%x, %x) = %x, %d", a, b, got, e)
		}
	})
}

func TestSub(t *testing.T) {
	eachPair(func(a, b []uint32) {
		got, e := nat.Sub(a, b)
		v := new(big.Int).Sub(value(a), value(b))
		if v.Sign() < 0 {
			if e != api.ErrArg || len(got) != 0 {
				t.Fatalf("Sub(%x, %x) = %x, %d", a, b, got, e)
			}
		} else if e != api.OK || !is(got, v) {
			t.Fatalf("Sub(%x, %x) = %x, %d", a, b, got, e)
		}
	})
}

func TestCarriesThroughAllWords(t *testing.T) {
	for _, n := range []int{1, 2, 3, 7, 100, api.MaxNat - 1} {
		got, e := nat.Add(full(n), words(1))
		if e != api.OK || !slices.Equal(got, one(32*n)) {
			t.Errorf("a carry through %d words: %d words, %d", n, len(got), e)
		}
		if got, e = nat.Add(words(1), full(n)); e != api.OK || !slices.Equal(got, one(32*n)) {
			t.Errorf("a carry through %d words of the second: %d words, %d", n, len(got), e)
		}
		if got, e = nat.Sub(one(32*n), words(1)); e != api.OK || !slices.Equal(got, full(n)) {
			t.Errorf("a borrow through %d words: %d words, %d", n, len(got), e)
		}
		if got, e = nat.Sub(one(32*n), full(n)); e != api.OK || !slices.Equal(got, words(1)) {
			t.Errorf("all but 1 off %d words: %d words, %d", n, len(got), e)
		}
	}
}

// P2.5

func TestMul(t *testing.T) {
	eachPair(func(a, b []uint32) {
		got, e := nat.Mul(a, b)
		if e != api.OK || !is(got, new(big.Int).Mul(value(a), value(b))) {
			t.Fatalf("Mul(%x, %x) = %x, %d", a, b, got, e)
		}
	})
}

func TestMulLong(t *testing.T) {
	d := dice(5)
	for _, n := range [][2]int{{1, 3000}, {3000, 1}, {700, 900}, {2000, 2000}} {
		for _, l := range [][2][]uint32{{full(n[0]), full(n[1])}, {d.list(n[0]), d.list(n[1])}} {
			got, e := nat.Mul(l[0], l[1])
			if e != api.OK || !is(got, new(big.Int).Mul(value(l[0]), value(l[1]))) {
				t.Fatalf("Mul of %d and %d words: %d words, %d", len(l[0]), len(l[1]), len(got), e)
			}
		}
	}
}

// P2.9

// shifts tells numbers of bits: none, whole words and next to them, and far past the end of any list.
func shifts() []int {
	l := []int{0, 500, 3200, 1 << 19, 1 << 31, 1 << 32, 1 << 36, maxInt - 31, maxInt - 1, maxInt}
	for n := range 14 {
		l = append(l, 32*n, 32*n+1, 32*n+17, 32*n+31)
	}
	return l
}

func TestShl(t *testing.T) {
	for _, a := range lists(300) {
		for _, n := range shifts() {
			got, e := nat.Shl(a, n)
			switch v := value(a); {
			case v.Sign() > 0 && n > 3200:
				if e != api.ErrLong || len(got) != 0 {
					t.Fatalf("Shl(%x, %d) = %d words, %d", a, n, len(got), e)
				}
			case v.Sign() == 0:
				if e != api.OK || len(got) != 0 {
					t.Fatalf("Shl(%x, %d) = %d words, %d", a, n, len(got), e)
				}
			case e != api.OK || !is(got, v.Lsh(v, uint(n))):
				t.Fatalf("Shl(%x, %d) = %x, %d", a, n, got, e)
			}
		}
	}
}

func TestShr(t *testing.T) {
	for _, a := range lists(300) {
		for _, n := range shifts() {
			got, sticky, e := nat.Shr(a, n)
			v := value(a)
			want := new(big.Int).Rsh(v, uint(min(n, 400)))
			cut := v.Sign() > 0 && int(v.TrailingZeroBits()) < n
			if e != api.OK || !is(got, want) || sticky != cut {
				t.Fatalf("Shr(%x, %d) = %x, %v, %d", a, n, got, sticky, e)
			}
		}
	}
}
