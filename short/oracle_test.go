package short_test

import (
	"math"
	"testing"

	"verge/api"
	"verge/fbit"
	"verge/short"
)

// What the tests measure by: DOC.md's words for valid, for 'as it is read' and for the least interval, for either kind
// of ends.

const (
	greatest     = math.MaxFloat32
	least        = math.SmallestNonzeroFloat32
	greatestWide = math.MaxFloat64
	leastWide    = math.SmallestNonzeroFloat64
)

var (
	inf    = math.Inf(1)
	nan    = math.NaN()
	signed = math.Copysign(0, -1)
	empty  = sv(inf, -inf)
	entire = sv(-inf, inf)
)

// sv tells a short interval: its ends are numbers of binary32, told as binary64.
func sv(lo, hi float64) api.Short { return api.Short{Lo: float32(lo), Hi: float32(hi)} }

func iv(lo, hi float64) api.Interval { return api.Interval{Lo: lo, Hi: hi} }

func pair[F fbit.Float](lo, hi F) short.Pair[F] { return short.Pair[F]{Lo: lo, Hi: hi} }

func void[F fbit.Float]() short.Pair[F] { return pair(F(math.Inf(1)), F(math.Inf(-1))) }

// above tells the next number of binary32 or infinity; below the one before.
func above(x float32) float32 { return math.Nextafter32(x, float32(math.Inf(1))) }
func below(x float32) float32 { return math.Nextafter32(x, float32(math.Inf(-1))) }

// aboveWide and belowWide: of binary64.
func aboveWide(x float64) float64 { return math.Nextafter(x, inf) }
func belowWide(x float64) float64 { return math.Nextafter(x, -inf) }

func minusNought[F fbit.Float](x F) bool { return x == 0 && math.Signbit(float64(x)) }

// right: DOC.md, 'What is handed in', 1.
func right[F fbit.Float](x short.Pair[F]) bool {
	lo, hi := float64(x.Lo), float64(x.Hi)
	if math.IsNaN(lo) || math.IsNaN(hi) || minusNought(x.Lo) || minusNought(x.Hi) {
		return false
	}
	return lo == inf && hi == -inf || lo <= hi && lo != inf && hi != -inf
}

func rightShort(x api.Short) bool { return right(short.Pair[float32](x)) }

// asRead: its 2.
func asRead[F fbit.Float](x short.Pair[F]) short.Pair[F] {
	lo, hi := float64(x.Lo), float64(x.Hi)
	if math.IsNaN(lo) || math.IsNaN(hi) || lo > hi || lo == inf || hi == -inf {
		return void[F]()
	}
	return pair(x.Lo+0, x.Hi+0)
}

func readShort(x api.Short) api.Short { return api.Short(asRead(short.Pair[float32](x))) }

func readWide(x api.Interval) api.Interval { return api.Interval(asRead(short.Pair[float64](x))) }

// same: sign by sign too; a NaN is nothing's like.
func same[F fbit.Float](x, y short.Pair[F]) bool {
	return x == y && math.Signbit(float64(x.Lo)) == math.Signbit(float64(y.Lo)) && math.Signbit(float64(x.Hi)) == math.Signbit(float64(y.Hi))
}

func sameShort(x, y api.Short) bool { return same(short.Pair[float32](x), short.Pair[float32](y)) }

func is(t *testing.T, got, want api.Short, format string, args ...any) {
	t.Helper()
	if !sameShort(got, want) {
		t.Errorf(format+" = {%x, %x}, want {%x, %x}", append(args, got.Lo, got.Hi, want.Lo, want.Hi)...)
	}
}

func isWide(t *testing.T, got, want api.Interval, format string, args ...any) {
	t.Helper()
	if !same(short.Pair[float64](got), short.Pair[float64](want)) {
		t.Errorf(format+" = {%x, %x}, want {%x, %x}", append(args, got.Lo, got.Hi, want.Lo, want.Hi)...)
	}
}

// shown tells two ends without the methods of their type.
func shown[F fbit.Float](x short.Pair[F]) [2]float64 { return [2]float64{float64(x.Lo), float64(x.Hi)} }

func isPair[F fbit.Float](t *testing.T, got, want short.Pair[F], format string, args ...any) {
	t.Helper()
	if !same(got, want) {
		t.Errorf(format+" = %x, want %x", append(args, shown(got), shown(want))...)
	}
}

// checkMeet: of two sets without gaps the later beginning and the earlier end.
func checkMeet[F fbit.Float](t *testing.T, x, y short.Pair[F]) {
	t.Helper()
	a, b := asRead(x), asRead(y)
	want := a
	if b.Lo > a.Lo {
		want.Lo = b.Lo
	}
	if b.Hi < a.Hi {
		want.Hi = b.Hi
	}
	if a == void[F]() || b == void[F]() || want.Lo > want.Hi {
		want = void[F]()
	}
	isPair(t, short.Meet(x, y), want, "Meet(%x, %x)", shown(x), shown(y))
}

// checkJoin: the earlier beginning and the later end of those that are not Empty.
func checkJoin[F fbit.Float](t *testing.T, x, y short.Pair[F]) {
	t.Helper()
	a, b := asRead(x), asRead(y)
	want := a
	switch {
	case a == void[F]():
		want = b
	case b != void[F]():
		if b.Lo < a.Lo {
			want.Lo = b.Lo
		}
		if b.Hi > a.Hi {
			want.Hi = b.Hi
		}
	}
	isPair(t, short.Join(x, y), want, "Join(%x, %x)", shown(x), shown(y))
}

// checkRead: P14.2.
func checkRead(t *testing.T, x api.Short) {
	t.Helper()
	is(t, short.Read(x), readShort(x), "Read(%x)", x)
	if got := short.Valid(x); got != rightShort(x) {
		t.Errorf("Valid(%x) = %t", x, got)
	}
}

// checkNarrow asks by the words for the least interval: no end of binary32 lies further in and holds x.
func checkNarrow(t *testing.T, x api.Interval) {
	t.Helper()
	got, a := short.Narrow(x), readWide(x)
	if a.Lo == inf {
		is(t, got, empty, "Narrow(%x)", x)
		return
	}
	switch {
	case !rightShort(got):
		t.Errorf("Narrow(%x) = %x, which is not valid", x, got)
	case float64(got.Lo) > a.Lo || float64(got.Hi) < a.Hi:
		t.Errorf("Narrow(%x) = %x, which does not hold it", x, got)
	case float64(above(got.Lo)) <= a.Lo || float64(below(got.Hi)) >= a.Hi:
		t.Errorf("Narrow(%x) = %x, which is not the least", x, got)
	}
}

// checkWide: P14.3's second part.
func checkWide(t *testing.T, x api.Short) {
	t.Helper()
	a := readShort(x)
	isWide(t, short.Wide(x), iv(float64(a.Lo), float64(a.Hi)), "Wide(%x)", x)
}
