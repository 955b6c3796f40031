package round_test

import (
	"encoding/binary"
	"math"
	"math/big"
	"slices"
	"testing"

	"verge/api"
	"verge/fbit"
	"verge/round"
)

// Of, Ratio and Narrow.

const ones = math.MaxUint32

// value tells the number that a list is.
func value(a []uint32) *big.Int {
	l := make([]byte, 4*len(a))
	for i, w := range a {
		binary.BigEndian.PutUint32(l[len(l)-4*i-4:], w)
	}
	return new(big.Int).SetBytes(l)
}

// list tells the list of a number.
func list(v *big.Int) []uint32 {
	l := make([]uint32, (v.BitLen()+31)/32)
	b := v.FillBytes(make([]byte, 4*len(l)))
	for i := range l {
		l[i] = binary.BigEndian.Uint32(b[len(b)-4*i-4:])
	}
	return l
}

func words(w ...uint32) []uint32 { return w }

func full(n int) []uint32 { return slices.Repeat([]uint32{ones}, n) }

// one tells 2^n.
func one(n int) []uint32 { return list(shifted(big.NewInt(1), n)) }

// behind tells a list with n words 0 at its end.
func behind(a []uint32, n int) []uint32 { return append(slices.Clone(a), make([]uint32, n)...) }

func (d *dice) list(n int) []uint32 {
	l := make([]uint32, d.below(n+1))
	for i := range l {
		l[i] = []uint32{uint32(d.next()), 0, ones, 1 << d.below(32)}[d.below(4)]
	}
	return l
}

// lists: of no word, of words 0, with words 0 at the end, of few bits, of many; of 53, 54, 55 bits and
// more, at ties and next to them.
func lists() [][]uint32 {
	l := [][]uint32{nil, {}, {0}, {0, 0}, {1}, {1, 0, 0}, {3}, {10}, {0, 1}, {ones}, {ones, ones}, {0, 0, 5}, {ones, 0, ones, 0}, full(9), one(200), behind(one(90), 5)}
	for _, n := range []int{23, 24, 25, 52, 53, 54, 55, 56, 57, 58, 63, 64, 65, 117, 118, 119} {
		v := shifted(big.NewInt(1), n)
		for _, step := range []int64{-1, 1, 3, -3} {
			l = append(l, list(new(big.Int).Add(v, big.NewInt(step))))
		}
		tie := new(big.Int).Add(v, shifted(big.NewInt(1), max(n-53, 0)))
		third := new(big.Int).Add(v, shifted(big.NewInt(3), max(n-53, 0)))
		for _, step := range []int64{-1, 0, 1} {
			l = append(l, list(new(big.Int).Add(tie, big.NewInt(step))), list(new(big.Int).Add(third, big.NewInt(step))))
		}
	}
	d := dice(31)
	for range 60 {
		l = append(l, d.list(8))
	}
	return l
}

func exponents() []int {
	return []int{minInt, minInt + 1, -1 << 40, -600000, -524288, -1300, -1200, -1131, -1130, -1129, -1128, -1127, -1126, -1100, -1076, -1075, -1074, -1073, -1022, -60, -1, 0, 1, 7,
		900, 906, 907, 908, 960, 967, 968, 969, 970, 971, 972, 1022, 1023, 1024, 1025, 524288, 1 << 40, maxInt - 1, maxInt}
}

// within 600000 an exponent decides as any farther one does: what is measured by need not hold 2^2^63.
func nearer(exp int) int { return min(max(exp, -600000), 600000) }

func checkOf(t *testing.T, a []uint32, exp int) {
	t.Helper()
	for _, d := range []int{api.Down, api.Near, api.Up} {
		for _, neg := range []bool{false, true} {
			want := binary64.rounded(d, real{neg, value(a), big.NewInt(1), nearer(exp)})
			is(t, round.Of(d, neg, a, exp), want, "Of(%d, %v, %x, %d)", d, neg, a, exp)
		}
	}
}

// P3.9
func TestOf(t *testing.T) {
	for _, a := range lists() {
		for _, exp := range exponents() {
			checkOf(t, a, exp)
		}
	}
	d := dice(32)
	for range 20000 {
		checkOf(t, d.list(5), d.below(2500)-1300)
	}
	for _, dir := range directions {
		is(t, round.Of(dir, false, words(1), -1074), least, "Of(%d, [1], -1074)", dir)
		is(t, round.Of(dir, true, words(1), -1075), []float64{-least, 0, 0}[slot(dir)], "Of(%d, true, [1], -1075)", dir)
		is(t, round.Of(dir, false, words(3), -1075), []float64{least, 2 * least, 2 * least}[slot(dir)], "Of(%d, [3], -1075)", dir)
	}
}

// Numbers of as many bits as may be, and one more.
func TestOfLong(t *testing.T) {
	top := full(api.MaxNat)
	for _, exp := range []int{minInt, -600000, -525400, -525363, -525362, -525361, -524288, -523265, -523264, -523263, -600, 0, maxInt} {
		checkOf(t, top, exp)
		checkOf(t, behind(top, 3), exp)
		checkOf(t, one(32*api.MaxNat-1), exp)
	}
	for _, d := range directions {
		for _, exp := range []int{minInt, -524288, 0, maxInt} {
			for _, a := range [][]uint32{one(32 * api.MaxNat), append(full(api.MaxNat), 1), full(api.MaxNat + 1), full(2 * api.MaxNat), behind(one(32*api.MaxNat), 2)} {
				is(t, round.Of(d, exp == 0, a, exp), nan, "Of(%d), %d words", d, len(a))
			}
			is(t, round.Of(d, true, make([]uint32, 2*api.MaxNat), exp), 0, "Of(%d), words 0", d)
		}
	}
}

func checkRatio(t *testing.T, num, den []uint32, exp int) {
	t.Helper()
	for _, d := range []int{api.Down, api.Near, api.Up} {
		for _, neg := range []bool{false, true} {
			want := binary64.rounded(d, real{neg, value(num), value(den), nearer(exp)})
			if got := round.Ratio(d, neg, num, den, exp); !same(got, want) {
				t.Errorf("Ratio(%d, %v, %d words, %d words, %d) = %x, want %x", d, neg, len(num), len(den), exp, got, want)
			}
		}
	}
}

func TestRatio(t *testing.T) {
	l := lists()
	d := dice(33)
	for _, num := range l {
		for _, den := range l {
			if value(den).Sign() != 0 {
				checkRatio(t, num, den, exponents()[d.below(len(exponents()))])
				checkRatio(t, num, den, d.below(2300)-1200)
			}
		}
	}
	for range 10000 {
		num, den := d.list(7), append(d.list(7), 1+uint32(d.below(ones)))
		checkRatio(t, num, den, d.below(2500)-1250)
		// quotients that are whole, ties, and next to both
		whole := new(big.Int).Add(shifted(value(den), d.below(9)), big.NewInt(int64(d.below(3)-1)))
		checkRatio(t, list(new(big.Int).Mul(whole, bigOf(d.sig()*2+1))), den, d.below(2500)-1250)
		tie := new(big.Int).Mul(bigOf(d.sig()*2+1), value(den))
		checkRatio(t, list(tie.Add(tie, big.NewInt(int64(d.below(3)-1)))), den, d.below(60)-30)
	}
	for _, exp := range exponents() {
		checkRatio(t, words(1), words(3), exp)
		checkRatio(t, words(9), words(3, 0, 0), exp)
	}
}

func bigOf(v uint64) *big.Int { return new(big.Int).SetUint64(v) }

// A quotient by a number that leaves no room to shift the other one.
func TestRatioLong(t *testing.T) {
	top, bit := full(api.MaxNat), one(32*api.MaxNat-1)
	less := slices.Clone(top)
	less[0]--
	near := slices.Clone(bit)
	near[0]++
	room := full(api.MaxNat - 1)
	wide := append(full(api.MaxNat-2), ones>>9, 0x1234)
	l := [][]uint32{top, bit, less, near, room, wide, behind(top, 2), words(1), words(3), full(77), one(524200)}
	far := []int{-1060, 1000, 524288, -524288, 523220, -525300}
	for i, num := range l {
		for j, den := range l {
			checkRatio(t, num, den, 0)
			checkRatio(t, num, den, far[(i+2*j)%len(far)])
		}
	}
}

// P3.9: noughts, and lists that are too long, ahead of all else.
func TestRatioOfOthers(t *testing.T) {
	long := [][]uint32{one(32 * api.MaxNat), full(api.MaxNat + 1), behind(full(api.MaxNat+1), 1)}
	noughts := [][]uint32{nil, {}, {0}, {0, 0, 0}, make([]uint32, api.MaxNat+1)}
	numbers := [][]uint32{{1}, {5, 0}, {0, 7}, full(api.MaxNat)}
	for _, d := range directions {
		for _, neg := range []bool{false, true} {
			for _, exp := range []int{minInt, -5, 0, 5, maxInt} {
				for _, a := range long {
					for _, b := range slices.Concat(long, noughts, numbers) {
						is(t, round.Ratio(d, neg, a, b, exp), nan, "Ratio(%d), num too long", d)
						is(t, round.Ratio(d, neg, b, a, exp), nan, "Ratio(%d), den too long", d)
					}
				}
				for _, a := range noughts {
					for _, b := range noughts {
						is(t, round.Ratio(d, neg, a, b, exp), nan, "Ratio(%d), 0 by 0", d)
					}
					for _, b := range numbers {
						is(t, round.Ratio(d, neg, a, b, exp), 0, "Ratio(%d), 0 by a number", d)
						is(t, round.Ratio(d, neg, b, a, exp), map[bool]float64{false: inf, true: -inf}[neg], "Ratio(%d), a number by 0", d)
					}
				}
			}
		}
	}
}

func checkNarrow(t *testing.T, x float64) {
	t.Helper()
	for _, d := range directions {
		got, want := round.Narrow(d, x), float32(binary32.rounded(d, realOf(x)))
		if math.Float32bits(got) != math.Float32bits(want) {
			t.Errorf("Narrow(%d, %x) = %x, want %x", d, x, got, want)
		}
	}
}

// P3.10
func TestNarrow(t *testing.T) {
	l := edges()
	for _, x := range []float64{0x1p-149, 0x1p-150, 0x1.8p-149, 0x1p-126, 0x1.fffffep-127, 1 + 0x1p-24, 1 + 3*0x1p-24, 0x1p128 - 0x1p103, 0x1p128 - 0x1p104, 0x1p128, 0x1p127, 0x1p-151, 0x1p-200} {
		l = append(l, x, fbit.NextUp(x), fbit.NextDown(x))
	}
	d := dice(34)
	for range 20000 {
		l = append(l, d.within(-230, 90), math.Ldexp(float64(d.sig()>>27), -175+d.below(30)))
	}
	for _, x := range l {
		checkNarrow(t, x)
		checkNarrow(t, -x)
	}
	bound := 0x1p128 - 0x1p103
	top := float32(math.MaxFloat32)
	far := float32(inf)
	for _, c := range []struct {
		x              float64
		down, near, up float32
	}{{bound, top, far, far}, {fbit.NextDown(bound), top, top, far}, {greatest, top, far, far}, {0x1p128, top, far, far}, {inf, far, far, far}, {float64(top), top, top, top},
		{0, 0, 0, 0}, {least, 0, 0, 0x1p-149}, {0x1p-150, 0, 0, 0x1p-149}} {
		for _, d := range directions {
			if got, want := round.Narrow(d, c.x), []float32{c.down, c.near, c.up}[slot(d)]; math.Float32bits(got) != math.Float32bits(want) {
				t.Errorf("Narrow(%d, %x) = %x, want %x", d, c.x, got, want)
			}
			if got, want := round.Narrow(d, -c.x), 0-[]float32{c.up, c.near, c.down}[slot(d)]; math.Float32bits(got) != math.Float32bits(want) {
				t.Errorf("Narrow(%d, %x) = %x, want %x", d, -c.x, got, want)
			}
		}
	}
}
