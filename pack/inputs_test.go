package pack_test

import (
	"encoding/hex"
	"math"
	"strings"

	"verge/api"
)

// What the tests hand in.

// of tells the bytes that are written in hexadecimal.
func of(text string) []byte {
	b, err := hex.DecodeString(strings.ReplaceAll(text, " ", ""))
	if err != nil {
		panic(err)
	}
	return b
}

// joined tells new bytes, with no room behind them that others have.
func joined(pieces ...[]byte) []byte {
	var out []byte
	for _, p := range pieces {
		out = append(out, p...)
	}
	return out
}

// nans are NaNs of all kinds: either sign, quiet and not, the first and the last bit alone, all bits, and those whose
// bytes are all but an infinity's.
func nans() []float64 {
	var out []float64
	for _, bits := range []uint64{0x7ff0000000000001, 0x7ff8000000000000, 0x7ff8000000000001, 0x7fffffffffffffff, 0x7ff00000000000ff, 0x7ff0000100000000, 0x7ff7ffffffffffff} {
		out = append(out, math.Float64frombits(bits), math.Float64frombits(bits|1<<63))
	}
	return out
}

// numbers are such that each byte of one stands at its own place.
func numbers() []float64 {
	return []float64{-greatest, -math.Float64frombits(0x0102030405060708), -3, -1.5, -0.1, -0x1p-1022, -least, 0, least, math.Float64frombits(0xff), math.Float64frombits(0x8000), 0x1p-1022, math.Float64frombits(0x0102030405060708), math.Float64frombits(0x3ff0f0f0f0f0f0f1), 0.1, 1, 2, 1 << 52, greatest}
}

// strange are ends that no form has in one of its two places, or in neither.
func strange() []float64 { return append(nans(), -inf, inf, signed) }

func edges() []float64 { return append(numbers(), strange()...) }

// eachInterval goes through all pairs of edges, and n by chance.
func eachInterval(n int, d dice, f func(x api.Interval)) {
	for _, lo := range edges() {
		for _, hi := range edges() {
			f(iv(lo, hi))
		}
	}
	for range n {
		f(d.interval())
	}
}

// ranks are numbers of decorations, and such as are none, some of which end in a decoration's byte.
func ranks() []int {
	return []int{api.Com, api.Dac, api.Def, api.Trv, api.Ill, math.MinInt, math.MinInt + 16, -240, -252, -256, -16, -8, -4, -1, 1, 2, 3, 5, 6, 7, 9, 10, 11, 13, 14, 15, 17, 18, 20, 24, 32, 64, 128, 255, 256, 256 + api.Trv, 256 + api.Com, 1<<16 + api.Dac, 1<<30 + api.Def, math.MaxInt}
}

// dice are numbers that look like chance, the same at every run.
type dice uint64

func (d *dice) next() uint64 {
	*d += 0x9e3779b97f4a7c15
	z := uint64(*d)
	z = (z ^ z>>30) * 0xbf58476d1ce4e5b9
	z = (z ^ z>>27) * 0x94d049bb133111eb
	return z ^ z>>31
}

func (d *dice) below(n int) int { return int(d.next() >> 1 % uint64(n)) }

func pick[T any](d *dice, l ...T) T { return l[d.below(len(l))] }

func (d *dice) bytes(n int) []byte {
	b := make([]byte, n)
	for i := range b {
		b[i] = byte(d.next())
	}
	return b
}

// end tells any bits, edges, and numbers.
func (d *dice) end() float64 {
	switch d.below(4) {
	case 0:
		return math.Float64frombits(d.next())
	case 1:
		return pick(d, edges()...)
	}
	return d.number()
}

// number tells numbers of all magnitudes and of either sign.
func (d *dice) number() float64 {
	for {
		if x := math.Float64frombits(d.next()); x-x == 0 {
			return x
		}
	}
}

// interval tells any interval, wrong ones too.
func (d *dice) interval() api.Interval {
	x, y := d.end(), d.end()
	switch d.below(6) {
	case 0:
		return iv(x, x)
	case 1:
		return iv(x, y)
	case 2:
		return empty
	}
	return iv(min(x, y), max(x, y))
}

// valid tells one that is valid.
func (d *dice) valid() api.Interval { return asRead(d.interval()) }

func (d *dice) deco() api.Deco {
	return api.Deco{X: d.interval(), D: pick(d, append(ranks(), int(d.next()), d.below(20), api.Com, api.Dac, api.Def, api.Trv)...)}
}

// box tells a box of n parts, wrong ones among them.
func (d *dice) box(n int) []api.Interval {
	out := make([]api.Interval, n)
	for i := range out {
		out[i] = d.interval()
	}
	return out
}

func (d *dice) validBox(n int) []api.Interval { return asReadBox(d.box(n)) }
