package nat_test

import (
	"math"
	"slices"
	"testing"

	"verge/api"
	"verge/nat"
)

// The calls, with the refusal of one failing the test.

func add(t *testing.T, a, b []uint32) []uint32 {
	t.Helper()
	s, e := nat.Add(a, b)
	good(t, e)
	return s
}

func mul(t *testing.T, a, b []uint32) []uint32 {
	t.Helper()
	p, e := nat.Mul(a, b)
	good(t, e)
	return p
}

func pow(t *testing.T, a []uint32, n int) []uint32 {
	t.Helper()
	p, e := nat.Pow(a, n)
	good(t, e)
	return p
}

// P2.10

func TestSumsAndProductsInAnyOrder(t *testing.T) {
	d := dice(8)
	l := lists(60)
	eachPair(func(a, b []uint32) {
		c := l[d.below(len(l))]
		if !slices.Equal(add(t, a, b), add(t, b, a)) || !slices.Equal(mul(t, a, b), mul(t, b, a)) {
			t.Fatalf("%x, %x: the order", a, b)
		}
		if !slices.Equal(add(t, add(t, a, b), c), add(t, a, add(t, b, c))) || !slices.Equal(mul(t, mul(t, a, b), c), mul(t, a, mul(t, b, c))) {
			t.Fatalf("%x, %x, %x: put together", a, b, c)
		}
		if !slices.Equal(mul(t, a, add(t, b, c)), add(t, mul(t, a, b), mul(t, a, c))) {
			t.Fatalf("%x, %x, %x: spread", a, b, c)
		}
		if back, e := nat.Sub(add(t, a, b), b); e != api.OK || !slices.Equal(back, nat.Norm(a)) {
			t.Fatalf("%x, %x: taken back: %x, %d", a, b, back, e)
		}
	})
}

func TestQuotientsOfProducts(t *testing.T) {
	eachPair(func(a, b []uint32) {
		if nat.Len(b) == 0 {
			return
		}
		q, r, e := nat.Quo(a, b)
		good(t, e)
		if nat.Cmp(r, b) >= 0 || !slices.Equal(add(t, mul(t, q, b), r), nat.Norm(a)) {
			t.Fatalf("%x by %x: %x and %x", a, b, q, r)
		}
		left, e := nat.Sub(b, words(1))
		good(t, e)
		q, r, e = nat.Quo(add(t, mul(t, a, b), left), b)
		if e != api.OK || !slices.Equal(q, nat.Norm(a)) || !slices.Equal(r, left) {
			t.Fatalf("%x times %x, and %x: %x and %x", a, b, left, q, r)
		}
	})
}

func TestRootsAndTheirSquares(t *testing.T) {
	for _, a := range lists(2000) {
		s, exact, e := nat.Root(a)
		good(t, e)
		next := add(t, s, words(1))
		if c := nat.Cmp(mul(t, s, s), a); c > 0 || exact != (c == 0) || nat.Cmp(mul(t, next, next), a) <= 0 {
			t.Fatalf("%x: root %x, %v", a, s, exact)
		}
	}
}

func TestPowersMultiplied(t *testing.T) {
	for _, a := range lists(40) {
		for i := range 12 {
			for j := range 7 {
				if !slices.Equal(mul(t, pow(t, a, i), pow(t, a, j)), pow(t, a, i+j)) {
					t.Fatalf("%x to the %d and to the %d", a, i, j)
				}
			}
		}
	}
}

func TestShiftsAndPowersOfTwo(t *testing.T) {
	for _, a := range lists(300) {
		for _, n := range []int{0, 1, 5, 31, 32, 33, 63, 64, 65, 96, 1000, 5000} {
			up, e := nat.Shl(a, n)
			good(t, e)
			down, sticky, e := nat.Shr(up, n)
			if e != api.OK || sticky || !slices.Equal(down, nat.Norm(a)) {
				t.Fatalf("%x up and down by %d: %x, %v, %d", a, n, down, sticky, e)
			}
			if !slices.Equal(up, mul(t, a, pow(t, words(2), n))) {
				t.Fatalf("%x up by %d: %x", a, n, up)
			}
		}
	}
}

func TestSameNumberSameList(t *testing.T) {
	eachPair(func(a, b []uint32) {
		if nat.Cmp(a, b) == 0 != slices.Equal(nat.Norm(a), nat.Norm(b)) || nat.Cmp(a, b) != -nat.Cmp(b, a) || nat.Cmp(a, behind(a, 3)) != 0 {
			t.Fatalf("Cmp(%x, %x)", a, b)
		}
		if nat.Len(a) == 0 || nat.Len(b) == 0 {
			return
		}
		if l, most := nat.Len(mul(t, a, b)), nat.Len(a)+nat.Len(b); l != most && l != most-1 {
			t.Fatalf("%x times %x: %d bits of %d", a, b, l, most)
		}
	})
}

// P2.11

const spare = 0x5a5a5a5a

// handed is a list with room behind it, which must stay as it is too.
type handed struct{ all, was, list []uint32 }

func handIn(a []uint32) handed {
	all := append(slices.Clone(a), spare, spare, spare)
	return handed{all, slices.Clone(all), all[:len(a)]}
}

// untouched fails the test, unless what was handed in is as it was, and what was answered is normal,
// lies apart from it, and in itself.
func untouched(t *testing.T, name string, got answer, in ...handed) {
	t.Helper()
	for i, h := range in {
		if !slices.Equal(h.all, h.was) {
			t.Fatalf("%s: changed what was handed in: %x to %x", name, h.was, h.all)
		}
		for _, l := range got.lists {
			if shares(l, h.all) {
				t.Fatalf("%s: shares memory with argument %d", name, i)
			}
		}
	}
	for i, l := range got.lists {
		if len(l) > 0 && l[len(l)-1] == 0 {
			t.Fatalf("%s: %x is not normal", name, l)
		}
		for _, k := range got.lists[:i] {
			if shares(l, k) {
				t.Fatalf("%s: two lists share memory", name)
			}
		}
	}
}

func TestMemory(t *testing.T) {
	l := append(lists(30), greatest(), over())
	d := dice(9)
	for range 2000 {
		a, b := handIn(l[d.below(len(l))]), handIn(l[d.below(len(l))])
		n := []int{0, 1, 2, 32, 64, 100, -1}[d.below(7)]
		for _, c := range every() {
			if len(a.list) > 100 && len(b.list) > 100 && c.name == "Mul" {
				continue
			}
			untouched(t, c.name, c.ask(a.list, b.list, n), a, b)
			if len(a.list) < 100 {
				untouched(t, c.name+" twice", c.ask(a.list, a.list, n), a)
				twice(t, c, a, n)
			}
		}
	}
	for _, v := range []uint64{0, 1, m, 1 << 32, math.MaxUint64} {
		if a, b := nat.Small(v), nat.Small(v); shares(a, b) {
			t.Fatalf("Small(%d) answers the same memory twice", v)
		}
	}
}

// twice asks with one list and with parts of it, which must make no difference to lists of their own.
func twice(t *testing.T, c call, h handed, n int) {
	t.Helper()
	a := h.list
	for _, part := range [][2][]uint32{{a, a}, {a, a[len(a)/2:]}, {a[len(a)/2:], a}, {a[:len(a)/2], a}} {
		got := c.ask(part[0], part[1], n)
		untouched(t, c.name, got, h)
		want := c.ask(slices.Clone(part[0]), slices.Clone(part[1]), n)
		if got.e != want.e || !slices.Equal(got.rest, want.rest) || !slices.EqualFunc(got.lists, want.lists, slices.Equal) {
			t.Fatalf("%s of one list twice: %v, of two lists %v", c.name, got, want)
		}
	}
}

// What is answered is new at every call, and stays as it is when the argument is changed later.
func TestAnswersAreKept(t *testing.T) {
	for _, c := range every() {
		a, b := words(7, 9, 11), words(3)
		first, second := c.ask(a, b, 2), c.ask(a, b, 2)
		for i, l := range first.lists {
			if shares(l, second.lists[i]) {
				t.Errorf("%s: two answers share memory", c.name)
			}
		}
		a[0], a[1], b[0] = 1, 2, 4
		for i, l := range first.lists {
			if !slices.Equal(l, second.lists[i]) {
				t.Errorf("%s: an answer changed", c.name)
			}
		}
	}
	a := words(7, 9)
	for name, l := range map[string][]uint32{"Norm(a)": nat.Norm(a), "Add(a, nothing)": add(t, a, nil), "Add(nothing, a)": add(t, nil, a), "Mul(a, 1)": mul(t, a, words(1)), "Pow(a, 1)": pow(t, a, 1)} {
		if shares(l, a) || !slices.Equal(l, a) {
			t.Errorf("%s: %x", name, l)
		}
	}
}

// No call panics at any number, and each ends.
func TestEveryCallEnds(t *testing.T) {
	l := append(edges(), greatest(), over(), behind(greatest(), 9), full(2*api.MaxNat), make([]uint32, 2*api.MaxNat))
	other := [][]uint32{nil, {0}, {3}, {m, m}, full(99), over()}
	numbers := []int{math.MinInt, -33, -1, 0, 1, 31, 32, 1 << 31, maxInt}
	for _, a := range l {
		for i, n := range numbers {
			for _, c := range every() {
				c.ask(a, other[i%len(other)], n)
			}
		}
		for _, b := range other {
			nat.Add(a, b)
			nat.Sub(a, b)
			nat.Mul(a, b)
			nat.Quo(a, b)
			nat.Cmp(a, b)
		}
	}
}
