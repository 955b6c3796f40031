package nat_test

import (
	"math"
	"slices"
	"testing"

	"verge/api"
	"verge/nat"
)

// The rows of the chapter's examples.

func TestExamplesOfNumbers(t *testing.T) {
	for _, c := range []struct{ got, want []uint32 }{
		{nat.Norm(words(5, 0, 0)), words(5)}, {nat.Norm(words(0)), nil}, {nat.Norm(nil), nil},
		{nat.Small(0), nil}, {nat.Small(4294967296), words(0, 1)},
	} {
		if !slices.Equal(c.got, c.want) {
			t.Errorf("%x, want %x", c.got, c.want)
		}
	}
	for _, c := range []struct {
		a    []uint32
		want uint64
		ok   bool
	}{{words(m, m, 0), math.MaxUint64, true}, {words(0, 0, 1), 0, false}, {nil, 0, true}} {
		if v, ok := nat.Word(c.a); v != c.want || ok != c.ok {
			t.Errorf("Word(%x) = %d, %v", c.a, v, ok)
		}
	}
	for _, c := range []struct{ got, want int }{
		{nat.Cmp(words(5), words(5, 0)), 0}, {nat.Cmp(words(0, 1), words(m)), 1}, {nat.Cmp(nil, words(1)), -1},
		{nat.Len(nil), 0}, {nat.Len(words(1)), 1}, {nat.Len(words(0, 1)), 33}, {nat.Zeros(words(0, 8)), 35}, {nat.Zeros(words(0)), 0},
	} {
		if c.got != c.want {
			t.Errorf("%d, want %d", c.got, c.want)
		}
	}
}

func TestExamplesOfCalls(t *testing.T) {
	none := [][]uint32{nil}
	x := greatest()
	for i, c := range []struct {
		name string
		a, b []uint32
		n    int
		want answer
	}{
		{"Add", words(m), words(1), 0, single(words(0, 1), 0)},
		{"Add", words(m, m), words(1, 0), 0, single(words(0, 0, 1), 0)},
		{"Add", nil, words(0), 0, single(nil, 0)},
		{"Sub", words(0, 1), words(1), 0, single(words(m), 0)},
		{"Sub", words(5), words(5, 0), 0, single(nil, 0)},
		{"Sub", words(5), words(6), 0, single(nil, api.ErrArg)},
		{"Mul", words(m), words(m), 0, single(words(1, 0xfffffffe), 0)},
		{"Mul", words(0, 1), words(0, 1), 0, single(words(0, 0, 1), 0)},
		{"Mul", nil, words(m), 0, single(nil, 0)},
		{"Quo", words(0x11), words(5), 0, answer{[][]uint32{{3}, {2}}, nil, 0}},
		{"Quo", words(5), words(0x11), 0, answer{[][]uint32{nil, {5}}, nil, 0}},
		{"Quo", words(0, 0, 1), words(1, 1), 0, answer{[][]uint32{{m}, {1}}, nil, 0}},
		{"Quo", words(5), words(0), 0, answer{[][]uint32{nil, nil}, nil, api.ErrArg}},
		{"Quo", words(0, 0, 0x80000000), words(1, 0x80000000), 0, answer{[][]uint32{{m}, {1, 0x7fffffff}}, nil, 0}},
		{"Root", words(0x18), nil, 0, answer{[][]uint32{{4}}, []int{0}, 0}},
		{"Root", words(0x19), nil, 0, answer{[][]uint32{{5}}, []int{1}, 0}},
		{"Root", words(m, m), nil, 0, answer{[][]uint32{{m}}, []int{0}, 0}},
		{"Root", nil, nil, 0, answer{none, []int{1}, 0}},
		{"Pow", words(0xa), nil, 14, single(words(0x107a4000, 0x5af3), 0)},
		{"Pow", nil, nil, 0, single(words(1), 0)},
		{"Pow", words(1), nil, maxInt, single(words(1), 0)},
		{"Pow", words(2), nil, -1, single(nil, api.ErrArg)},
		{"Pow", words(2), nil, 524287, single(one(524287), 0)},
		{"Pow", words(2), nil, 524288, single(nil, api.ErrLong)},
		{"Pow", words(3), nil, maxInt, single(nil, api.ErrLong)},
		{"Shl", words(1), nil, 32, single(words(0, 1), 0)},
		{"Shl", words(3), nil, 31, single(words(0x80000000, 1), 0)},
		{"Shl", nil, nil, maxInt, single(nil, 0)},
		{"Shl", words(1), nil, 524287, single(one(524287), 0)},
		{"Shl", words(1), nil, 524288, single(nil, api.ErrLong)},
		{"Shl", words(1), nil, -1, single(nil, api.ErrArg)},
		{"Shr", words(1, 1), nil, 1, answer{[][]uint32{{0x80000000}}, []int{1}, 0}},
		{"Shr", words(0, 1), nil, 32, answer{[][]uint32{{1}}, []int{0}, 0}},
		{"Shr", words(6), nil, 1, answer{[][]uint32{{3}}, []int{0}, 0}},
		{"Shr", words(6), nil, maxInt, answer{none, []int{1}, 0}},
		{"Shr", words(6), nil, -1, answer{none, []int{0}, api.ErrArg}},
		{"Add", x, words(1), 0, single(nil, api.ErrLong)},
		{"Mul", x, words(2), 0, single(nil, api.ErrLong)},
		{"Mul", x, words(1), 0, single(x, 0)},
		{"Sub", append(slices.Clone(x), 1), words(1), 0, single(nil, api.ErrLong)},
	} {
		got := named(t, c.name).ask(c.a, c.b, c.n)
		if got.e != c.want.e || !slices.Equal(got.rest, c.want.rest) || !slices.EqualFunc(got.lists, c.want.lists, slices.Equal) {
			t.Errorf("row %d, %s: %d, %v", i, c.name, got.e, got.rest)
		}
	}
}
