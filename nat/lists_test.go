package nat_test

import (
	"encoding/binary"
	"math"
	"math/big"
	"slices"
	"testing"
	"unsafe"

	"verge/api"
	"verge/nat"
)

const (
	m       = math.MaxUint32
	maxInt  = math.MaxInt
	maxBits = 32 * api.MaxNat
)

// words makes lists short to write.
func words(w ...uint32) []uint32 { return w }

func full(n int) []uint32 { return slices.Repeat([]uint32{m}, n) }

// behind tells a list with n words 0 behind it.
func behind(a []uint32, n int) []uint32 { return append(slices.Clone(a), make([]uint32, n)...) }

// one tells 2^n, lists of any length.
func one(n int) []uint32 {
	l := make([]uint32, n/32+1)
	l[n/32] = 1 << (n % 32)
	return l
}

// value tells the number that a list is.
func value(a []uint32) *big.Int {
	l := make([]byte, 4*len(a))
	for i, w := range a {
		binary.BigEndian.PutUint32(l[len(l)-4*i-4:], w)
	}
	return new(big.Int).SetBytes(l)
}

// list tells the normal list of a number.
func list(v *big.Int) []uint32 {
	l := make([]uint32, (v.BitLen()+31)/32)
	b := v.FillBytes(make([]byte, 4*len(l)))
	for i := range l {
		l[i] = binary.BigEndian.Uint32(b[len(b)-4*i-4:])
	}
	return l
}

// is asks for a normal list of the number.
func is(a []uint32, v *big.Int) bool {
	return (len(a) == 0 || a[len(a)-1] != 0) && value(a).Cmp(v) == 0
}

// dice is a source of bits that is the same in every run.
type dice uint64

func (d *dice) next() uint64 {
	*d += 0x9e3779b97f4a7c15
	z := uint64(*d)
	z = (z ^ z>>30) * 0xbf58476d1ce4e5b9
	z = (z ^ z>>27) * 0x94d049bb133111eb
	return z ^ z>>31
}

func (d *dice) below(n int) int { return int(d.next() % uint64(n)) }

// word tells a word of any bits, or, more often, one at an edge.
func (d *dice) word() uint32 {
	edges := []uint32{0, 0, 0, 1, 2, m, m, m, m - 1, 1 << 31, 1 << 31, 1<<31 - 1, 1<<31 + 1, 1 << 16}
	if i := d.below(2 * len(edges)); i < len(edges) {
		return edges[i]
	}
	return uint32(d.next())
}

// list tells a list of at most n words; some have words 0 at the end.
func (d *dice) list(n int) []uint32 {
	l := make([]uint32, d.below(n+1))
	for i := range l {
		l[i] = d.word()
	}
	return l
}

// edges tells lists that stand at an edge: of no word, with words 0 at the high end, all bits 1, one
// bit, and next to that.
func edges() [][]uint32 {
	l := [][]uint32{nil, {}, {0}, {0, 0, 0}, {1}, {2}, {3}, {5}, {5, 0, 0}, {m}, {m - 1}, {m, 0}, {0, 1}, {1, 1}, {m, 1}, {0, 0, 1}, {m, m}, {0, m}, {m, 0, m}, {1, 0, 0, 1}, {0, 8, 0}}
	for _, n := range []int{3, 5, 8} {
		l = append(l, full(n))
	}
	for _, n := range []int{1, 16, 30, 31, 32, 33, 62, 63, 64, 65, 95, 96, 97, 128, 160} {
		p := new(big.Int).Lsh(big.NewInt(1), uint(n))
		l = append(l, list(p), list(new(big.Int).Sub(p, big.NewInt(1))), list(new(big.Int).Add(p, big.NewInt(1))))
	}
	return l
}

// lists tells the edges, and n lists of up to 9 words.
func lists(n int) [][]uint32 {
	l := edges()
	d := dice(2)
	for range n {
		l = append(l, d.list(9))
	}
	return l
}

// eachPair goes through pairs of such lists.
func eachPair(f func(a, b []uint32)) {
	l := lists(120)
	for _, a := range l {
		for _, b := range l {
			f(a, b)
		}
	}
	d := dice(3)
	for range 20000 {
		f(d.list(12), d.list(7))
	}
}

// good fails the test, unless a call was not refused.
func good(t *testing.T, e api.Errno) {
	t.Helper()
	if e != api.OK {
		t.Fatalf("refused: %d", e)
	}
}

// shares tells whether two lists have a word in common, spare room too.
func shares(a, b []uint32) bool {
	if cap(a) == 0 || cap(b) == 0 {
		return false
	}
	from := func(l []uint32) uintptr { return uintptr(unsafe.Pointer(unsafe.SliceData(l))) }
	return from(a) < from(b)+4*uintptr(cap(b)) && from(b) < from(a)+4*uintptr(cap(a))
}

// answer is what any of the calls answers: its lists, and whatever else as numbers.
type answer struct {
	lists [][]uint32
	rest  []int
	e     api.Errno
}

// call is one of the calls that answer lists, with arguments that it does not use left out.
type call struct {
	name string
	ask  func(a, b []uint32, n int) answer
}

func single(l []uint32, e api.Errno) answer { return answer{[][]uint32{l}, nil, e} }

func truth(ok bool) int {
	if ok {
		return 1
	}
	return 0
}

// limited tells the eight calls that may refuse.
func limited() []call {
	return []call{
		{"Add", func(a, b []uint32, n int) answer { return single(nat.Add(a, b)) }},
		{"Sub", func(a, b []uint32, n int) answer { return single(nat.Sub(a, b)) }},
		{"Mul", func(a, b []uint32, n int) answer { return single(nat.Mul(a, b)) }},
		{"Quo", func(a, b []uint32, n int) answer {
			q, r, e := nat.Quo(a, b)
			return answer{[][]uint32{q, r}, nil, e}
		}},
		{"Root", func(a, b []uint32, n int) answer {
			r, exact, e := nat.Root(a)
			return answer{[][]uint32{r}, []int{truth(exact)}, e}
		}},
		{"Pow", func(a, b []uint32, n int) answer { return single(nat.Pow(a, n)) }},
		{"Shl", func(a, b []uint32, n int) answer { return single(nat.Shl(a, n)) }},
		{"Shr", func(a, b []uint32, n int) answer {
			q, sticky, e := nat.Shr(a, n)
			return answer{[][]uint32{q}, []int{truth(sticky)}, e}
		}},
	}
}

// every tells all calls that are handed a list.
func every() []call {
	return append(limited(),
		call{"Norm", func(a, b []uint32, n int) answer { return single(nat.Norm(a), api.OK) }},
		call{"Word", func(a, b []uint32, n int) answer {
			v, ok := nat.Word(a)
			return answer{nil, []int{int(v), truth(ok)}, api.OK}
		}},
		call{"Cmp", func(a, b []uint32, n int) answer { return answer{nil, []int{nat.Cmp(a, b)}, api.OK} }},
		call{"Len", func(a, b []uint32, n int) answer { return answer{nil, []int{nat.Len(a)}, api.OK} }},
		call{"Zeros", func(a, b []uint32, n int) answer { return answer{nil, []int{nat.Zeros(a)}, api.OK} }},
	)
}

// named finds one of them.
func named(t *testing.T, name string) call {
	t.Helper()
	for _, c := range every() {
		if c.name == name {
			return c
		}
	}
	t.Fatalf("no call %s", name)
	return call{}
}
