package round_test

import (
	"math"
	"testing"

	"verge/api"
	"verge/fbit"
	"verge/round"
)

// Pow and Root of numbers, held against exact reals.

func checkPower(t *testing.T, x float64, n int) {
	t.Helper()
	if x == 0 && n < 0 {
		return // it is no real
	}
	r := realOf(x).power(n)
	for _, d := range []int{api.Down, api.Near, api.Up} {
		is(t, round.Pow(d, x, n), binary64.rounded(d, r), "Pow(%d, %x, %d)", d, x, n)
	}
}

// P3.7
func TestPowers(t *testing.T) {
	for _, x := range edges() {
		for _, n := range []int{-1024, -65, -5, -4, -3, -2, -1, 1, 2, 3, 4, 5, 7, 64, 1023} {
			checkPower(t, x, n)
		}
	}
	for _, x := range []float64{0.1, 1 + e, -1 - e, 1 - e/2, 2, -0.5, 3, greatest, -least} {
		for _, n := range []int{-1024, -1023, 1023, 1024} {
			checkPower(t, x, n)
		}
	}
	d := dice(21)
	for range 4000 {
		checkPower(t, d.within(-70, -40), d.below(41)-20)
		checkPower(t, d.number(), d.below(9)-4)
		x := math.Exp(float64(d.below(1400)-700) / float64(2+d.below(300)))
		checkPower(t, -x, d.below(300)-150)
	}
}

// Powers that are numbers, that are ties, and at the bounds of all numbers.
func TestPowersAtBounds(t *testing.T) {
	for n := 1; n <= 1023; n++ {
		for _, d := range directions {
			is(t, round.Pow(d, 2, n), math.Ldexp(1, n), "Pow(%d, 2, %d)", d, n)
			is(t, round.Pow(d, 0.5, n), math.Ldexp(1, -n), "Pow(%d, 1/2, %d)", d, n)
			is(t, round.Pow(d, 2, -n), math.Ldexp(1, -n), "Pow(%d, 2, %d)", d, -n)
		}
	}
	for _, d := range directions {
		is(t, round.Pow(d, 2, 1024), []float64{greatest, inf, inf}[slot(d)], "Pow(%d, 2, 1024)", d)
		is(t, round.Pow(d, 0.5, -1024), []float64{greatest, inf, inf}[slot(d)], "Pow(%d, 1/2, -1024)", d)
		is(t, round.Pow(d, -2, 1023), -0x1p1023, "Pow(%d, -2, 1023)", d)
		is(t, round.Pow(d, -4, 513), []float64{-inf, -inf, -greatest}[slot(d)], "Pow(%d, -4, 513)", d)
		is(t, round.Pow(d, 4, -537), least, "Pow(%d, 4, -537)", d)
		is(t, round.Pow(d, -0x1p-25, 43), []float64{-least, 0, 0}[slot(d)], "Pow(%d, -2^-25, 43)", d) // 2^-1075, a tie with nought
		is(t, round.Pow(d, 0x1p-358*3, 3), []float64{27 * least, 27 * least, 27 * least}[slot(d)], "Pow(%d, 3 2^-358, 3)", d)
		is(t, round.Pow(d, 0x1p18+1, 3), []float64{0x1p54 + 3*0x1p36 + 3*0x1p18, 0x1p54 + 3*0x1p36 + 3*0x1p18, 0x1p54 + 3*0x1p36 + 3*0x1p18 + 4}[slot(d)], "Pow(%d, 2^18 + 1, 3)", d)
		is(t, round.Pow(d, -3, 33), -5559060566555523, "Pow(%d, -3, 33)", d)
		is(t, round.Pow(d, greatest, 1024), []float64{greatest, inf, inf}[slot(d)], "Pow(%d, g, 1024)", d)
		is(t, round.Pow(d, least, 1024), []float64{0, 0, least}[slot(d)], "Pow(%d, t, 1024)", d)
		is(t, round.Pow(d, -greatest, -1023), []float64{-least, 0, 0}[slot(d)], "Pow(%d, -g, -1023)", d)
		is(t, round.Pow(d, least, -1024), []float64{greatest, inf, inf}[slot(d)], "Pow(%d, t, -1024)", d)
	}
}

func checkRoots(t *testing.T, x float64, n int) {
	t.Helper()
	down, near, up := round.Root(api.Down, x, n), round.Root(api.Near, x, n), round.Root(api.Up, x, n)
	if x < 0 {
		x, down, near, up = -x, -up, -near, -down
	}
	if !isRoot(x, n, down, near, up) {
		t.Errorf("Root(%x, %d): %x, %x, %x", x, n, down, near, up)
	}
}

// P3.8
func TestRoots(t *testing.T) {
	for _, x := range edges() {
		for _, n := range []int{1, 2, 3, 4, 5, 6, 7, 10, 53, 64, 101} {
			if x >= 0 || n%2 == 1 {
				checkRoots(t, x, n)
			}
		}
	}
	for _, x := range []float64{least, 0.1, 1 + e, 1 - e/2, 2, 1000, greatest} {
		checkRoots(t, x, 1024)
		checkRoots(t, -x, 1023)
	}
	d := dice(22)
	for range 1500 {
		checkRoots(t, math.Abs(d.number()), 3+d.below(20))
		checkRoots(t, d.number(), 3+2*d.below(60))
	}
}

// Roots that are numbers, and those next to them.
func TestWholeRoots(t *testing.T) {
	d := dice(23)
	for n := 3; n <= 40; n++ {
		for range 12 {
			r := float64(2 + d.below(1<<min(52/n, 30)))
			x := round.Pow(api.Near, r, n)
			if x > 0x1p53 {
				continue
			}
			for _, dir := range directions {
				is(t, round.Root(dir, x, n), r, "Root(%d, %v, %d)", dir, x, n)
				if n%2 == 1 {
					is(t, round.Root(dir, -x, n), -r, "Root(%d, %v, %d)", dir, -x, n)
				}
			}
			checkRoots(t, fbit.NextUp(x), n)
			checkRoots(t, fbit.NextDown(x), n)
		}
	}
	for n := 3; n <= api.MaxPow; n += 13 {
		for k := -1074 / n; k <= 1023/n; k += 1 + 60/n {
			for _, dir := range directions {
				is(t, round.Root(dir, math.Ldexp(1, k*n), n), math.Ldexp(1, k), "Root(%d, 2^%d, %d)", dir, k*n, n)
			}
		}
	}
}
