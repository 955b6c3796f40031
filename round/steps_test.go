package round_test

import (
	"math"
	"testing"

	"verge/api"
	"verge/fbit"
	"verge/round"
)

// Add, Sub, Mul, Div, Sqrt and FMA of numbers, held against exact reals.

func checkPair(t *testing.T, x, y float64) {
	t.Helper()
	a, b := realOf(x), realOf(y)
	for _, d := range directions {
		is(t, round.Add(d, x, y), binary64.rounded(d, a.plus(b)), "Add(%d, %x, %x)", d, x, y)
		is(t, round.Sub(d, x, y), binary64.rounded(d, a.plus(b.minus())), "Sub(%d, %x, %x)", d, x, y)
		is(t, round.Mul(d, x, y), binary64.rounded(d, a.times(b)), "Mul(%d, %x, %x)", d, x, y)
		if y != 0 {
			is(t, round.Div(d, x, y), binary64.rounded(d, a.by(b)), "Div(%d, %x, %x)", d, x, y)
		}
	}
}

// P3.2, P3.3, P3.4
func TestPairsOfEdges(t *testing.T) {
	l := edges()
	for _, x := range l {
		for _, y := range l {
			checkPair(t, x, y)
		}
	}
}

func TestPairs(t *testing.T) {
	d := dice(11)
	for range 12000 {
		checkPair(t, d.number(), d.number())
		x := d.within(-80, 80)
		checkPair(t, x, d.within(-80, 80))
		checkPair(t, x, -x*(1+float64(d.below(9)-4)*e)) // most cancels
	}
}

// Sums and products near a tie, and one step beside it.
func TestTies(t *testing.T) {
	d := dice(12)
	for range 4000 {
		x := d.within(-60, 20)
		_, _, exp, _ := fbit.Split(x)
		half := math.Ldexp(1, exp-1)
		for _, y := range []float64{half, -half, half / 2, 3 * half, -3 * half, half * (1 + e), half * (1 - e/2), half * (1 - e)} {
			checkPair(t, x, y)
		}
		checkPair(t, math.Ldexp(float64(d.sig()>>26), -40), math.Ldexp(float64(d.sig()>>26|1), 9)) // products of 54 bits and fewer
		checkPair(t, math.Ldexp(float64(d.sig()), -1100), 0.5)
		checkPair(t, math.Ldexp(float64(d.sig()), -1022), math.Ldexp(float64(d.below(16)), -54))
	}
}

// P3.2 to P3.6: the greatest number and what is beyond.
func TestTooGreat(t *testing.T) {
	tie := 0x1p970 // the greatest number and this are 2^1024 - 2^970
	for _, c := range []struct{ x, y, down, near, up float64 }{
		{greatest, tie, greatest, inf, inf}, {greatest, fbit.NextDown(tie), greatest, greatest, inf}, {greatest, fbit.NextUp(tie), greatest, inf, inf},
		{greatest, least, greatest, greatest, inf}, {greatest, 0, greatest, greatest, greatest}, {greatest, greatest, greatest, inf, inf},
		{greatest, -tie, fbit.NextDown(greatest), fbit.NextDown(greatest), greatest}, // a tie whose even number is the lower one
		{greatest, -least, fbit.NextDown(greatest), greatest, greatest},
	} {
		for _, d := range directions {
			want, mirrored := c.near, -c.near
			switch d {
			case api.Down:
				want, mirrored = c.down, -c.up
			case api.Up:
				want, mirrored = c.up, -c.down
			}
			is(t, round.Add(d, c.x, c.y), want, "Add(%d, %x, %x)", d, c.x, c.y)
			is(t, round.Add(d, -c.x, -c.y), mirrored, "Add(%d, %x, %x)", d, -c.x, -c.y)
			is(t, round.Sub(d, c.x, -c.y), want, "Sub(%d, %x, %x)", d, c.x, -c.y)
			is(t, round.FMA(d, c.x, 1, c.y), want, "FMA(%d, %x, 1, %x)", d, c.x, c.y)
			is(t, round.FMA(d, -c.x/2, 2, -c.y), mirrored, "FMA(%d, %x, 2, %x)", d, -c.x/2, -c.y)
		}
	}
	for _, d := range directions {
		want := []float64{greatest, inf, inf}[slot(d)]
		for i, near := range []float64{inf, inf, greatest} { // (1 + k e) (2 - 2 k e) 2^1023 is 2^1024 - 2^970 at k = 2^25
			k := 0x1p25 + float64(i-1)
			is(t, round.Mul(d, 1+k*e, (2-2*k*e)*0x1p1023), []float64{greatest, near, inf}[slot(d)], "Mul(%d) next to 2^1024 - 2^970, %d", d, i)
			is(t, round.FMA(d, 1+k*e, (2-2*k*e)*0x1p1023, minus), []float64{greatest, near, inf}[slot(d)], "FMA(%d) next to 2^1024 - 2^970, %d", d, i)
		}
		is(t, round.Div(d, greatest, 1-e/2), want, "Div(%d, g, 1 - e/2)", d) // 2^1024
		is(t, round.Div(d, fbit.NextDown(greatest), e/2-1), []float64{-greatest, -greatest, -fbit.NextDown(greatest)}[slot(d)], "Div(%d), just below g", d)
	}
}

// slot: which of Down, Near, Up is meant by d.
func slot(d int) int {
	if d == api.Down || d == api.Up {
		return d + 1
	}
	return 1
}

func checkRoot(t *testing.T, x float64) {
	t.Helper()
	down, near, up := round.Sqrt(api.Down, x), round.Sqrt(api.Near, x), round.Sqrt(api.Up, x)
	if !isRoot(x, 2, down, near, up) {
		t.Errorf("Sqrt(%x): %x, %x, %x", x, down, near, up)
	}
	for _, d := range directions {
		is(t, round.Sqrt(d, x), []float64{down, near, up}[slot(d)], "Sqrt(%d, %x)", d, x)
	}
}

// isRoot asks whether three numbers are the n-th root of x, not below 0, rounded down, to the nearest
// and up.
func isRoot(x float64, n int, down, near, up float64) bool {
	if down != up && up != fbit.NextUp(down) {
		return false
	}
	low, high := powerOver(realOf(down), n, x), powerOver(realOf(up), n, x)
	switch {
	case down == up:
		return low == 0 && near == down
	case low >= 0 || high <= 0:
		return false
	}
	middle := powerOver(realOf(down).plus(realOf(up)).times(realOf(0.5)), n, x)
	return middle != 0 && near == []float64{down, 0, up}[1-middle]
}

// powerOver tells -1, 0 or 1, as r to the n is below x, x, or above it.
func powerOver(r real, n int, x float64) int {
	p := r.power(n).plus(realOf(x).minus())
	return p.signed().Sign()
}

// P3.5
func TestSquareRoots(t *testing.T) {
	for _, x := range edges() {
		if x >= 0 {
			checkRoot(t, x)
		}
	}
	d := dice(13)
	for range 20000 {
		checkRoot(t, math.Abs(d.number()))
		s := float64(d.sig() >> (27 + d.below(20))) // squares, and their neighbours
		for _, x := range []float64{s * s, fbit.NextUp(s * s), fbit.NextDown(s * s)} {
			checkRoot(t, x)
			checkRoot(t, math.Ldexp(x, -1070))
			checkRoot(t, math.Ldexp(x, 901))
		}
	}
}

func checkFused(t *testing.T, x, y, z float64) {
	t.Helper()
	r := realOf(x).times(realOf(y)).plus(realOf(z))
	for _, d := range []int{api.Down, api.Near, api.Up} {
		is(t, round.FMA(d, x, y, z), binary64.rounded(d, r), "FMA(%d, %x, %x, %x)", d, x, y, z)
	}
}

// P3.6
func TestFusedEdges(t *testing.T) {
	l := few()
	for _, x := range l {
		for _, y := range l {
			for _, z := range l {
				checkFused(t, x, y, z)
			}
		}
	}
	for _, d := range directions {
		is(t, round.FMA(d, 1+e, 1+e, least), []float64{1 + 2*e, 1 + 2*e, 1 + 3*e}[slot(d)], "FMA(%d, 1 + e, 1 + e, t)", d)
	}
}

func TestFused(t *testing.T) {
	d := dice(14)
	for range 30000 {
		checkFused(t, d.number(), d.number(), d.number())
		x, y := d.within(-60, -40), d.within(-60, -40)
		checkFused(t, x, y, d.within(-170, 60))
		p := x * y
		checkFused(t, x, y, -p*(1+float64(d.below(9)-4)*e))
		checkFused(t, x, y, math.Ldexp(p, d.below(240)-120))
		checkFused(t, x, y, -math.Ldexp(p, d.below(240)-120))
	}
}

// The product lies at a tie, or at a number, and z decides, however small it is; or the product's
// error and z are together a tie.
func TestFusedDecidedByLittle(t *testing.T) {
	d := dice(15)
	for range 6000 {
		x, y := math.Ldexp(float64(d.sig()>>26), -40), math.Ldexp(float64(d.sig()>>26|1), 9)
		for _, z := range []float64{least, 0x1p-300, 0x1p-120, 0x1p-80} {
			checkFused(t, x, y, z)
			checkFused(t, x, y, -z)
		}
		x, y = d.within(-60, -40), d.within(-60, -40)
		p := x * y
		off := math.FMA(x, y, -p)
		_, _, exp, _ := fbit.Split(p)
		half := math.Ldexp(1, exp-1)
		for _, z := range []float64{half - off, -half - off, -off, half, half / 2, -half, fbit.NextUp(half - off), fbit.NextDown(-half - off)} {
			checkFused(t, x, y, z)
			checkFused(t, -x, y, -z)
			checkFused(t, x, y, z-p)
		}
	}
}

// The product lies within its own last place of a tie of the sum, or of a number, on either side: its
// two parts must not be rounded onto that.
func TestFusedNextToATie(t *testing.T) {
	d := dice(16)
	for range 4000 {
		x := math.Ldexp(float64(d.sig()), -52)
		for _, at := range []float64{0.25, 0.5, 1, 1.5} {
			y := at / x
			z := 0x1p52 + float64(d.below(8))
			for _, by := range []float64{y, fbit.NextUp(y), fbit.NextDown(y)} {
				checkFused(t, x, by, z)
				checkFused(t, x, by, -z)
			}
		}
	}
}
