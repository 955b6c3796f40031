package short_test

import (
	"math"
	"testing"

	"verge/api"
	"verge/fbit"
	"verge/short"
)

// What the tests hand in.

// Types with names of their own; one has a method, which no call may heed.
type (
	mine32 float32
	mine64 float64
	loud32 float32
)

func (loud32) String() string { return "loud" }

// eachKind runs one test, made for each kind of ends.
func eachKind(t *testing.T, wide, mineWide, narrow, mineNarrow, loud func(*testing.T)) {
	t.Helper()
	t.Run("binary64", wide)
	t.Run("mine64", mineWide)
	t.Run("binary32", narrow)
	t.Run("mine32", mineNarrow)
	t.Run("loud32", loud)
}

// dice are numbers that look like chance, the same at every run.
type dice uint64

func (d *dice) next() uint64 {
	*d += 0x9e3779b97f4a7c15
	z := uint64(*d)
	z = (z ^ z>>30) * 0xbf58476d1ce4e5b9
	z = (z ^ z>>27) * 0x94d049bb133111eb
	return z ^ z>>31
}

func (d *dice) below(n int) int { return int(d.next() >> 1 % uint64(n)) }

func pick[T any](d *dice, l ...T) T { return l[d.below(len(l))] }

// patterns32 and patterns64 are numbers on which much hangs, infinities, both noughts, and NaNs: of either sign, quiet
// and not, with the first and the last bit alone, with all bits.
func patterns32() []float32 {
	out := []float32{0, least, above(least), below(0x1p-126), 0x1p-126, above(0x1p-126), below(1), 1, above(1), 1.5, 2, 3, 0x1p23, 0x1p24, 0x1p127, below(greatest), greatest, float32(inf)}
	for _, bits := range []uint32{0x7f800001, 0x7fc00000, 0x7fc00001, 0x7fffffff, 0x7fbfffff} {
		out = append(out, math.Float32frombits(bits))
	}
	return bothSigns(out)
}

func patterns64() []float64 {
	out := []float64{0, leastWide, 0x1p-1022, 0x1p-150, 0x1p-149, 1, aboveWide(1), 2, 3, greatest, 0x1p128, 0x1p1023, greatestWide, inf}
	for _, bits := range []uint64{0x7ff0000000000001, 0x7ff8000000000000, 0x7ff8000000000001, 0x7fffffffffffffff, 0x7ff7ffffffffffff} {
		out = append(out, math.Float64frombits(bits))
	}
	return bothSigns(out)
}

// bothSigns tells numbers, and each with the other sign.
func bothSigns[F fbit.Float](l []F) []F {
	var out []F
	for _, x := range l {
		out = append(out, x, -x)
	}
	return out
}

// crossed tells all pairs of ends.
func crossed[F fbit.Float](ends []F) []short.Pair[F] {
	var out []short.Pair[F]
	for _, lo := range ends {
		for _, hi := range ends {
			out = append(out, pair(lo, hi))
		}
	}
	return out
}

func shorts(ends []float32) []api.Short {
	var out []api.Short
	for _, x := range crossed(ends) {
		out = append(out, api.Short(x))
	}
	return out
}

// proper tells the intervals of some ends that are not read as Empty, and Empty.
func proper(ends ...float32) []api.Short {
	out := []api.Short{empty}
	for _, x := range shorts(ends) {
		if readShort(x) != empty {
			out = append(out, x)
		}
	}
	return out
}

// number tells numbers of binary32 of all magnitudes, and of some more often: those about 1, the least, the greatest,
// and those with few places.
func (d *dice) number() float32 {
	sig := float64(d.next()>>40 | 1)
	if d.below(3) == 0 {
		sig = float64(d.below(40))
	}
	if d.below(2) == 0 {
		sig = -sig
	}
	switch d.below(8) {
	case 0:
		return float32(math.Ldexp(sig, -160+d.below(30)))
	case 1:
		return float32(math.Ldexp(sig, -149+d.below(250)))
	case 2:
		return float32(math.Ldexp(sig, 95+d.below(10)))
	case 3, 4:
		return float32(math.Ldexp(float64(d.below(64)-32), -d.below(3)))
	}
	return float32(math.Ldexp(sig, -30+d.below(20)))
}

// end tells numbers, infinities, 0, and numbers on which much hangs.
func (d *dice) end() float32 {
	switch d.below(12) {
	case 0:
		return float32(inf)
	case 1:
		return float32(-inf)
	case 2:
		return 0
	case 3:
		return pick(d, least, -least, greatest, -greatest, below(greatest), 0x1p-126, below(0x1p-126), 1, -1, above(1), below(1))
	}
	return d.number()
}

// interval tells intervals that are not Empty, as they are read.
func (d *dice) interval() api.Short {
	x, y := d.end(), d.end()
	switch d.below(6) {
	case 0:
		y = x
	case 1:
		y = above(x)
	case 2:
		x = 0
	}
	if out := readShort(api.Short{Lo: min(x, y), Hi: max(x, y)}); out != empty {
		return out
	}
	return entire
}

// point tells intervals of one number, of which an operation's value mostly lies between two numbers of binary32.
func (d *dice) point() api.Short {
	x := d.number()
	return readShort(api.Short{Lo: x, Hi: x})
}

// wild tells an interval of any bits.
func (d *dice) wild() api.Short {
	return api.Short{Lo: d.bits(), Hi: d.bits()}
}

func (d *dice) bits() float32 {
	if d.below(2) == 0 {
		return pick(d, patterns32()...)
	}
	return math.Float32frombits(uint32(d.next()))
}

func (d *dice) bitsWide() float64 {
	switch d.below(4) {
	case 0:
		return pick(d, patterns64()...)
	case 1:
		return math.Float64frombits(d.next())
	}
	return d.wide()
}

// wide tells numbers of binary64 about the range of binary32, beyond it too.
func (d *dice) wide() float64 {
	x := math.Ldexp(1+float64(d.next()>>12)*0x1p-52, -180+d.below(330))
	if d.below(2) == 0 {
		return -x
	}
	return x
}

// list tells n things, each told by tell.
func list[T any](n int, tell func() T) []T {
	out := make([]T, n)
	for i := range out {
		out[i] = tell()
	}
	return out
}

// eachList hands out all lists of n of the things.
func eachList[T any](n int, of []T, try func(list []T)) {
	at := make([]int, n)
	for {
		out := make([]T, n)
		for i := range at {
			out[i] = of[at[i]]
		}
		try(out)
		i := 0
		for ; i < n; i++ {
			if at[i]++; at[i] < len(of) {
				break
			}
			at[i] = 0
		}
		if i == n {
			return
		}
	}
}

// beyond are powers above MaxPow and below -MaxPow.
func beyond() []int {
	return []int{math.MinInt, math.MinInt + 1, -1 << 31, -2048, -1026, -1025, 1025, 1026, 2048, 1<<31 - 1, math.MaxInt - 1, math.MaxInt}
}

// strangers are numbers of operations that are none.
func strangers() []int {
	return []int{math.MinInt, -1 << 31, -4, -1, 0, api.OpConst, api.OpRoundAway + 1, api.OpRoundAway + 2, 32, 64, 256 + api.OpAdd, 1<<16 + api.OpAdd, 1<<31 - 1, math.MaxInt}
}
