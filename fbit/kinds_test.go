package fbit_test

import (
	"math"
	"math/big"
	"testing"
	"unsafe"

	"verge/fbit"
)

// mine64 and mine32 are types of their own name; loud64 has a method besides, which must play no part.
type (
	mine64 float64
	mine32 float32
	loud64 float64
)

func (x loud64) String() string { return "loud" }

// format is what the chapter's table says of a format, and the places that follow of it, written out
// once more so that the tests lean on nothing of the package.
type format struct {
	least, top  int
	full        uint64 // the least full significand
	infinity    uint64 // the bits of +Inf
	sign        uint64 // the bit of the sign
	leastNormal uint64 // the bits of the least normal number
	one         uint64 // the bits of 1
}

func formatOf[F fbit.Float]() format {
	if isWide[F]() {
		return format{-1074, 971, 1 << 52, 9218868437227405312, 1 << 63, 0x0010000000000000, 4607182418800017408}
	}
	return format{-149, 104, 1 << 23, 2139095040, 1 << 31, 0x00800000, 1065353216}
}

func isWide[F fbit.Float]() bool {
	var x F
	return unsafe.Sizeof(x) == 8
}

func toBits[F fbit.Float](x F) uint64 {
	if isWide[F]() {
		return math.Float64bits(float64(x))
	}
	return uint64(math.Float32bits(float32(x)))
}

func fromBits[F fbit.Float](b uint64) F {
	if isWide[F]() {
		return F(math.Float64frombits(b))
	}
	return F(math.Float32frombits(uint32(b)))
}

// same tells whether two are the same bits, all NaN being one.
func same[F fbit.Float](a, b F) bool {
	return a != a && b != b || a == a && b == b && toBits(a) == toBits(b)
}

func inf[F fbit.Float]() F       { return fromBits[F](formatOf[F]().infinity) }
func minusZero[F fbit.Float]() F { return fromBits[F](formatOf[F]().sign) }
func tiny[F fbit.Float]() F      { return fromBits[F](1) }
func most[F fbit.Float]() F      { return fromBits[F](formatOf[F]().infinity - 1) }

// nans tells some NaN of both signs: the first, the last, a quiet one.
func nans[F fbit.Float]() []F {
	f := formatOf[F]()
	var l []F
	for _, b := range []uint64{f.infinity + 1, f.sign - 1, f.infinity | f.full>>1, f.infinity | f.full>>1 | 1} {
		l = append(l, fromBits[F](b), fromBits[F](b|f.sign))
	}
	return l
}

// magnitudes tells the bits of numbers from 0 to +Inf, rising: the edges between the kinds, and
// ordinary ones between them.
func magnitudes[F fbit.Float]() []uint64 {
	f := formatOf[F]()
	n := f.leastNormal
	return []uint64{
		0, 1, 2, 3, n / 3, n - 2, n - 1, // 0, the least, the greatest subnormal ones
		n, n + 1, 2*n - 1, 2 * n, 2*n + 1, // the least normal ones, and the next exponent
		f.one / 2, f.one - n, f.one - 1, f.one, f.one + 1, f.one + n/2, f.one + n, f.one + n + n/2,
		toBits(F(3.25)), toBits(F(1000)), f.infinity / 4 * 3, f.infinity - n, f.infinity - 2, f.infinity - 1, f.infinity,
	}
}

// row tells these numbers with both signs in their order, -0 ahead of 0; no NaN.
func row[F fbit.Float]() []F {
	m := magnitudes[F]()
	var l []F
	for i := len(m) - 1; i >= 0; i-- {
		l = append(l, fromBits[F](m[i]|formatOf[F]().sign))
	}
	for _, b := range m {
		l = append(l, fromBits[F](b))
	}
	return l
}

// dice is a source of bits that is the same in every run.
type dice uint64

func (d *dice) next() uint64 {
	*d += 0x9e3779b97f4a7c15
	z := uint64(*d)
	z = (z ^ z>>30) * 0xbf58476d1ce4e5b9
	z = (z ^ z>>27) * 0x94d049bb133111eb
	return z ^ z>>31
}

// many tells the row, and numbers of any bits (no NaN).
func many[F fbit.Float]() []F {
	l := row[F]()
	d := dice(1)
	for range 20000 {
		if x := fromBits[F](d.next()); x == x {
			l = append(l, x)
		}
	}
	return l
}

// place is what the chapter says of a number's place, of its bits.
func place[F fbit.Float](x F) int64 {
	b := toBits(x)
	if s := formatOf[F]().sign; b&s != 0 {
		return -int64(b &^ s)
	}
	return int64(b)
}

// exactly tells the real that a sign, a significand and an exponent are.
func exactly(neg bool, sig uint64, exp int) *big.Float {
	r := new(big.Float).SetPrec(64).SetUint64(sig)
	r.SetMantExp(r, exp)
	if neg {
		r.Neg(r)
	}
	return r
}

// nearest tells the number of F nearest to a real, and whether it is just that real.
func nearest[F fbit.Float](r *big.Float) (F, bool) {
	if isWide[F]() {
		x, acc := r.Float64()
		return F(x), acc == big.Exact
	}
	x, acc := r.Float32()
	return F(x), acc == big.Exact
}

// eachKind runs one test for both formats and for types of their own name.
func eachKind(t *testing.T, wide, narrow, ownWide, ownNarrow, ownLoud func(*testing.T)) {
	t.Helper()
	t.Run("binary64", wide)
	t.Run("binary32", narrow)
	t.Run("mine64", ownWide)
	t.Run("mine32", ownNarrow)
	t.Run("loud64", ownLoud)
}
