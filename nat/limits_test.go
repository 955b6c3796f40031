package nat_test

import (
	"fmt"
	"math"
	"slices"
	"testing"

	"verge/api"
	"verge/nat"
)

// refusal is a call that must be refused.
type refusal struct {
	name string
	a, b []uint32
	n    int
	want api.Errno
}

// refused fails the test, unless a call is refused as it must be, with nothing beside the error.
func refused(t *testing.T, r refusal) {
	t.Helper()
	got := named(t, r.name).ask(r.a, r.b, r.n)
	what := fmt.Sprintf("%s of %d words, %d words, %d", r.name, len(r.a), len(r.b), r.n)
	if got.e != r.want {
		t.Errorf("%s: %d, want %d", what, got.e, r.want)
	}
	for _, l := range got.lists {
		if len(l) != 0 {
			t.Errorf("%s: a list of %d words beside an error", what, len(l))
		}
	}
	for _, v := range got.rest {
		if v != 0 {
			t.Errorf("%s: %d beside an error", what, v)
		}
	}
}

// greatest is the greatest number that is not too long, over is the least one that is.
func greatest() []uint32 { return full(api.MaxNat) }
func over() []uint32     { return one(maxBits) }

// P2.4 to P2.9: what is handed in is too long, if the answer were short too.
func TestTooLongHandedIn(t *testing.T) {
	long := [][]uint32{over(), append(greatest(), 1), behind(over(), 3), full(2 * api.MaxNat)}
	for _, a := range long {
		for _, name := range []string{"Add", "Mul", "Quo"} {
			refused(t, refusal{name, a, words(1), 0, api.ErrLong})
			refused(t, refusal{name, words(1), a, 0, api.ErrLong})
			refused(t, refusal{name, a, a, 0, api.ErrLong})
			refused(t, refusal{name, nil, a, 0, api.ErrLong})
		}
		refused(t, refusal{"Add", a, nil, 0, api.ErrLong})
		refused(t, refusal{"Mul", a, nil, 0, api.ErrLong})
		for _, b := range [][]uint32{nil, {0}, {1}, over()} {
			refused(t, refusal{"Sub", a, b, 0, api.ErrLong})
		}
		refused(t, refusal{"Sub", a, a, 0, api.ErrLong})
		refused(t, refusal{"Root", a, nil, 0, api.ErrLong})
		for _, n := range []int{0, 1, 2, 32, 524288, maxInt} {
			refused(t, refusal{"Pow", a, nil, n, api.ErrLong})
			refused(t, refusal{"Shl", a, nil, n, api.ErrLong})
			refused(t, refusal{"Shr", a, nil, n, api.ErrLong})
		}
	}
}

// ErrArg is looked at ahead of ErrLong.
func TestArgumentFirst(t *testing.T) {
	above := one(maxBits + 1)
	for _, a := range [][]uint32{nil, {0}, {1}, {5, 9}, greatest(), over()} {
		refused(t, refusal{"Sub", a, above, 0, api.ErrArg})
		refused(t, refusal{"Quo", a, nil, 0, api.ErrArg})
		refused(t, refusal{"Quo", a, words(0), 0, api.ErrArg})
		refused(t, refusal{"Quo", a, words(0, 0, 0), 0, api.ErrArg})
		refused(t, refusal{"Quo", a, make([]uint32, api.MaxNat+1), 0, api.ErrArg})
		for _, n := range []int{-1, -2, -32, -524288, math.MinInt + 1, math.MinInt} {
			refused(t, refusal{"Pow", a, nil, n, api.ErrArg})
			refused(t, refusal{"Shl", a, nil, n, api.ErrArg})
			refused(t, refusal{"Shr", a, nil, n, api.ErrArg})
		}
	}
}

func TestTooLongAnswers(t *testing.T) {
	half := api.MaxNat / 2
	for _, r := range []refusal{
		{"Add", greatest(), words(1), 0, api.ErrLong},
		{"Add", words(1, 0), greatest(), 0, api.ErrLong},
		{"Add", greatest(), greatest(), 0, api.ErrLong},
		{"Add", one(maxBits - 1), one(maxBits - 1), 0, api.ErrLong},
		{"Mul", greatest(), words(2), 0, api.ErrLong},
		{"Mul", words(2), greatest(), 0, api.ErrLong},
		{"Mul", greatest(), greatest(), 0, api.ErrLong},
		{"Mul", full(half + 1), full(half), 0, api.ErrLong},
		{"Mul", full(half), full(half + 1), 0, api.ErrLong},
		{"Mul", one(maxBits / 2), one(maxBits / 2), 0, api.ErrLong},
		{"Mul", one(maxBits - 1), words(2), 0, api.ErrLong},
		{"Shl", greatest(), nil, 1, api.ErrLong},
		{"Shl", words(1), nil, maxBits, api.ErrLong},
		{"Shl", words(3), nil, maxBits - 1, api.ErrLong},
		{"Shl", one(77), nil, maxBits - 77, api.ErrLong},
		{"Shl", one(77), nil, maxInt, api.ErrLong},
		{"Shl", words(1), nil, maxInt - 31, api.ErrLong},
		{"Pow", words(2), nil, maxBits, api.ErrLong},
		{"Pow", greatest(), nil, 2, api.ErrLong},
		{"Pow", full(half + 1), nil, 2, api.ErrLong},
		{"Pow", words(3), nil, maxInt, api.ErrLong},
	} {
		refused(t, r)
	}
}

// At the limit all is well; words 0 behind a number do not make it longer.
func TestAtTheLimit(t *testing.T) {
	less := greatest()
	less[0]--
	half := api.MaxNat / 2
	square := slices.Concat(words(1), make([]uint32, half-1), words(m-1), full(half-1))
	for _, c := range []struct {
		name string
		a, b []uint32
		n    int
		want []uint32
	}{
		{"Add", less, words(1), 0, greatest()},
		{"Add", greatest(), nil, 0, greatest()},
		{"Add", nil, greatest(), 0, greatest()},
		{"Sub", greatest(), words(1), 0, less},
		{"Sub", greatest(), nil, 0, greatest()},
		{"Sub", greatest(), greatest(), 0, nil},
		{"Mul", greatest(), words(1), 0, greatest()},
		{"Mul", words(1), greatest(), 0, greatest()},
		{"Mul", nil, greatest(), 0, nil},
		{"Mul", greatest(), words(0), 0, nil},
		{"Mul", full(half), full(half), 0, square},
		{"Mul", one(maxBits / 2), one(maxBits/2 - 1), 0, one(maxBits - 1)},
		{"Quo", greatest(), words(1), 0, greatest()},
		{"Quo", greatest(), greatest(), 0, words(1)},
		{"Quo", less, greatest(), 0, nil},
		{"Pow", greatest(), nil, 1, greatest()},
		{"Pow", greatest(), nil, 0, words(1)},
		{"Pow", words(2), nil, maxBits - 1, one(maxBits - 1)},
		{"Pow", full(half), nil, 2, square},
		{"Shl", words(1), nil, maxBits - 1, one(maxBits - 1)},
		{"Shl", greatest(), nil, 0, greatest()},
		{"Shl", one(77), nil, maxBits - 78, one(maxBits - 1)},
		{"Shl", words(0, 0), nil, maxInt, nil},
		{"Shr", greatest(), nil, 0, greatest()},
		{"Shr", greatest(), nil, maxBits - 1, words(1)},
		{"Shr", greatest(), nil, maxBits, nil},
		{"Root", square, nil, 0, full(half)},
	} {
		for _, n := range []int{0, 1, 50} {
			got := named(t, c.name).ask(behind(c.a, n), behind(c.b, n), c.n)
			if got.e != api.OK || !slices.Equal(got.lists[0], c.want) {
				t.Errorf("%s of %d words, %d words, %d: %d words, %d", c.name, len(c.a), len(c.b), c.n, len(got.lists[0]), got.e)
			}
		}
	}
}

// What none of the limited calls refuses is a number with words 0 behind it, however many.
func TestManyZeros(t *testing.T) {
	a, b := behind(words(9), 5*api.MaxNat), behind(words(2), 3*api.MaxNat)
	for _, c := range limited() {
		short, long := c.ask(words(9), words(2), 3), c.ask(a, b, 3)
		if short.e != api.OK || long.e != api.OK || !slices.EqualFunc(short.lists, long.lists, slices.Equal) || !slices.Equal(short.rest, long.rest) {
			t.Errorf("%s: %v, with words 0 behind %v", c.name, short, long)
		}
	}
	if v, ok := nat.Word(a); v != 9 || !ok || nat.Len(a) != 4 || nat.Cmp(a, words(9)) != 0 {
		t.Errorf("Word, Len, Cmp of 9 with words 0 behind it")
	}
}
