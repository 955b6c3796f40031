package short_test

import (
	"math"
	"testing"

	"verge/fbit"
	"verge/short"
)

// P14.1

func checkBoth[F fbit.Float](t *testing.T, x, y short.Pair[F]) {
	t.Helper()
	checkMeet(t, x, y)
	checkJoin(t, x, y)
}

// All pairs of ends that the document names, wrong ones too.
func pairsOfEdges[F fbit.Float](ends ...F) func(*testing.T) {
	return func(t *testing.T) {
		all := crossed(ends)
		for _, x := range all {
			for _, y := range all {
				checkBoth(t, x, y)
			}
		}
	}
}

// few are the ends that the document names.
func few[F fbit.Float](least, greatest F) []F {
	infinite := F(math.Inf(1))
	return []F{-infinite, -greatest, -2, -least, F(signed), 0, least, 1, 3, greatest, infinite, F(nan)}
}

func TestPairsOfEdges(t *testing.T) {
	eachKind(t, pairsOfEdges(few[float64](leastWide, greatestWide)...), pairsOfEdges(few[mine64](leastWide, greatestWide)...),
		pairsOfEdges(few[float32](least, greatest)...), pairsOfEdges(few[mine32](least, greatest)...), pairsOfEdges(few[loud32](least, greatest)...))
}

// Any bits, and those that lie side by side.
func pairsByChance[F fbit.Float](end func(d *dice) F) func(*testing.T) {
	return func(t *testing.T) {
		d := dice(14010)
		for range 20000 {
			a, b, c, e := end(&d), end(&d), end(&d), end(&d)
			checkBoth(t, pair(a, b), pair(c, e))
			checkBoth(t, pair(min(a, b), max(a, b)), pair(min(c, e), max(c, e)))
			checkBoth(t, pair(min(a, b), max(a, b)), pair(b, max(b, c)))
			checkBoth(t, pair(a, a), pair(min(a, c), max(a, c)))
			checkBoth(t, pair(a, fbit.NextUp(a)), pair(fbit.NextDown(a), a))
		}
	}
}

func TestPairsByChance(t *testing.T) {
	eachKind(t, pairsByChance((*dice).bitsWide), pairsByChance(func(d *dice) mine64 { return mine64(d.bitsWide()) }),
		pairsByChance((*dice).bits), pairsByChance(func(d *dice) mine32 { return mine32(d.bits()) }), pairsByChance(func(d *dice) loud32 { return loud32(d.end()) }))
}

// in tells whether a real, told as an end that is not infinite, is a point of an interval as it is read.
func in[F fbit.Float](v F, x short.Pair[F]) bool {
	x = asRead(x)
	return x.Lo <= v && v <= x.Hi
}

// Point by point: Meet has those that both have, Join those that lie between two that one of them has.
func pointByPoint[F fbit.Float](t *testing.T) {
	ends := []F{F(math.Inf(-1)), -3, -2, -1, 0, 1, 2, 3, F(math.Inf(1))}
	points := []F{-4, -3, -2.5, -2, -1.5, -1, -0.5, 0, 0.5, 1, 1.5, 2, 2.5, 3, 4}
	all := append(crossed(ends), pair(F(nan), 1), pair(1, F(nan)), pair(F(signed), 2), pair(-1, F(signed)))
	for _, x := range all {
		for _, y := range all {
			meet, join := short.Meet(x, y), short.Join(x, y)
			for i, v := range points {
				if in(v, meet) != (in(v, x) && in(v, y)) {
					t.Errorf("Meet(%v, %v) = %v: %v", shown(x), shown(y), shown(meet), v)
				}
				ahead, behind := false, false
				for k, w := range points {
					has := in(w, x) || in(w, y)
					ahead, behind = ahead || has && k <= i, behind || has && k >= i
				}
				if in(v, join) != (ahead && behind) {
					t.Errorf("Join(%v, %v) = %v: %v", shown(x), shown(y), shown(join), v)
				}
			}
		}
	}
}

func TestPointByPoint(t *testing.T) {
	eachKind(t, pointByPoint[float64], pointByPoint[mine64], pointByPoint[float32], pointByPoint[mine32], pointByPoint[loud32])
}

// Ends of binary64 that binary32 does not have stay as they are.
func TestWideEndsStay(t *testing.T) {
	for _, x := range []float64{0.1, aboveWide(1), leastWide, 0x1p-1000, 1e300, greatestWide} {
		isPair(t, short.Meet(pair(-x, x), pair(-inf, inf)), pair(-x, x), "Meet of +-%x and Entire", x)
		isPair(t, short.Join(pair(-x, -x), pair(x, x)), pair(-x, x), "Join of -%x and %x", x, x)
		isPair(t, short.Meet(pair(mine64(x), 2*mine64(x)), pair(0, mine64(x))), pair(mine64(x), mine64(x)), "Meet at %x", x)
	}
}
