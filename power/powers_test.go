package power_test

import (
	"math"
	"testing"

	"verge/api"
	"verge/power"
)

// P7.1, P7.2

func checkPown(t *testing.T, x api.Interval, n int) {
	t.Helper()
	is(t, power.Pown(x, n), wantPown(x, n), "Pown({%x, %x}, %d)", x.Lo, x.Hi, n)
}

// others are powers of which nothing is told.
func others() []int {
	return []int{api.MaxPow + 1, -api.MaxPow - 1, api.MaxPow + 2, -api.MaxPow - 2, 2000, -2001, 1 << 16, -1 << 16, 1 << 32, -1 << 32, 1<<32 + 2, math.MaxInt, math.MaxInt - 1, math.MinInt, math.MinInt + 1}
}

func TestSmallPowers(t *testing.T) {
	for n := -7; n <= 7; n++ {
		for _, x := range crossed(append(edges(), some()...)) {
			checkPown(t, x, n)
		}
	}
}

func TestGreatPowers(t *testing.T) {
	ends := []float64{-inf, -greatest, -2, -1 - 0x1p-52, -1, -0.5, -least, 0, least, 1 - 0x1p-53, 1, 1.5, 2, inf, nan}
	for _, n := range []int{30, 31, -30, -31, 341, -342, api.MaxPow - 1, 1 - api.MaxPow, api.MaxPow, -api.MaxPow} {
		for _, x := range crossed(ends) {
			checkPown(t, x, n)
		}
	}
}

func TestPowersByChance(t *testing.T) {
	d := dice(7001)
	for range 8000 {
		checkPown(t, d.interval(), d.power())
	}
}

func TestPowersBeyondTheLimit(t *testing.T) {
	for _, n := range others() {
		for _, x := range crossed(edges()) {
			want, none := taken(x)
			if !none {
				want = entire
			}
			is(t, power.Pown(x, n), want, "Pown({%x, %x}, %d)", x.Lo, x.Hi, n)
		}
	}
}

// The edges that the document names, written out.
func TestEdgesOfPowers(t *testing.T) {
	const big, tiny, most = greatest, least, api.MaxPow
	checkRows(t, []row{
		{"0 of Empty", power.Pown(empty, 0), empty},
		{"0 of ends in the wrong order", power.Pown(iv(2, 1), 0), empty},
		{"0 of a NaN", power.Pown(iv(nan, 1), 0), empty},
		{"0 of {0, 0}", power.Pown(iv(0, signed), 0), iv(1, 1)},
		{"0 of a half-line", power.Pown(iv(-inf, -3), 0), iv(1, 1)},
		{"1 of -0", power.Pown(iv(signed, signed), 1), iv(0, 0)},
		{"1 about 0", power.Pown(iv(-3, 2), 1), iv(-3, 2)},
		{"1 of Entire", power.Pown(entire, 1), entire},
		{"2 of {0, 0}", power.Pown(iv(0, 0), 2), iv(0, 0)},
		{"2 up to 0", power.Pown(iv(-3, 0), 2), iv(0, 9)},
		{"2 up to -0", power.Pown(iv(-3, signed), 2), iv(0, 9)},
		{"2 from 0 on", power.Pown(iv(0, 3), 2), iv(0, 9)},
		{"2 about 0, the lower end farther", power.Pown(iv(-3, 2), 2), iv(0, 9)},
		{"2 of Entire", power.Pown(entire, 2), iv(0, inf)},
		{"2 of a half-line below 0", power.Pown(iv(-inf, -3), 2), iv(9, inf)},
		{"2 of a half-line about 0", power.Pown(iv(-inf, 3), 2), iv(0, inf)},
		{"3 of {0, 0}", power.Pown(iv(0, 0), 3), iv(0, 0)},
		{"3 up to 0", power.Pown(iv(-2, signed), 3), iv(-8, 0)},
		{"3 from 0 on", power.Pown(iv(signed, 2), 3), iv(0, 8)},
		{"3 of Entire", power.Pown(entire, 3), entire},
		{"3 of a half-line above 0", power.Pown(iv(2, inf), 3), iv(8, inf)},
		{"4 below 0", power.Pown(iv(-3, -2), 4), iv(16, 81)},
		{"-1 of {0, 0}", power.Pown(iv(0, 0), -1), empty},
		{"-1 of {-0, 0}", power.Pown(iv(signed, 0), -1), empty},
		{"-1 of Empty", power.Pown(empty, -1), empty},
		{"-1 below 0", power.Pown(iv(-4, -2), -1), iv(-0.5, -0.25)},
		{"-1 up to 0", power.Pown(iv(-4, 0), -1), iv(-inf, -0.25)},
		{"-1 up to -0", power.Pown(iv(-4, signed), -1), iv(-inf, -0.25)},
		{"-1 from 0 to +Inf", power.Pown(iv(0, inf), -1), iv(0, inf)},
		{"-1 from -Inf to 0", power.Pown(iv(-inf, 0), -1), iv(-inf, 0)},
		{"-1 of a half-line below 0", power.Pown(iv(-inf, -2), -1), iv(-0.5, 0)},
		{"-1 of a half-line about 0", power.Pown(iv(-2, inf), -1), entire},
		{"-1 of Entire", power.Pown(entire, -1), entire},
		{"-2 of Entire", power.Pown(entire, -2), iv(0, inf)},
		{"-2 of Empty", power.Pown(iv(3, nan), -2), empty},
		{"-2 below 0", power.Pown(iv(-4, -2), -2), iv(0.0625, 0.25)},
		{"-2 above 0", power.Pown(iv(2, 4), -2), iv(0.0625, 0.25)},
		{"-2 up to 0", power.Pown(iv(-4, 0), -2), iv(0.0625, inf)},
		{"-2 from 0 on", power.Pown(iv(signed, 4), -2), iv(0.0625, inf)},
		{"-2 of a half-line below 0", power.Pown(iv(-inf, -2), -2), iv(0, 0.25)},
		{"-2 of a half-line about 0", power.Pown(iv(-inf, 2), -2), iv(0, inf)},
		{"-3 of {0, 0}", power.Pown(iv(0, 0), -3), empty},
		{"-3 from 0 on", power.Pown(iv(0, 2), -3), iv(0.125, inf)},
		{"-3 about 0", power.Pown(iv(-tiny, tiny), -3), entire},
		{"beyond the greatest, above 0", power.Pown(iv(2, big), 1024), iv(big, inf)},
		{"beyond the greatest, below 0", power.Pown(iv(-big, -2), 1023), iv(-inf, -0x1p1023)},
		{"both beyond the greatest, below 0", power.Pown(iv(-big, -3), 1023), iv(-inf, -big)},
		{"below the least, above 0", power.Pown(iv(tiny, 0.25), 1000), iv(0, tiny)},
		{"below the least, below 0", power.Pown(iv(-0.25, -tiny), 1001), iv(-tiny, 0)},
		{"1 by what is beyond the greatest", power.Pown(iv(4, big), -1000), iv(0, tiny)},
		{"1 by what is beyond it, below 0", power.Pown(iv(-big, -4), -1001), iv(-tiny, 0)},
		{"1 by what is below the least", power.Pown(iv(tiny, tiny), -2), iv(big, inf)},
		{"1 by what is below it, below 0", power.Pown(iv(-tiny, -tiny), -3), iv(-inf, -big)},
		{"1 by the least number", power.Pown(iv(-tiny, -tiny), -1), iv(-inf, -big)},
		{"the least number itself", power.Pown(iv(0x1p-537, 0x1p-537), 2), iv(tiny, tiny)},
		{"minus the least number", power.Pown(iv(-0x1p-358, -0x1p-358), 3), iv(-tiny, -tiny)},
		{"just below the least number", power.Pown(iv(below(0x1p-537), 0x1p-537), 2), iv(0, tiny)},
		{"a number with few places", power.Pown(iv(0.5, 0.5), 1024), iv(0x1p-1024, 0x1p-1024)},
		{"of 2, -MaxPow", power.Pown(iv(-2, -2), -most), iv(0x1p-1024, 0x1p-1024)},
		{"of 1, MaxPow", power.Pown(iv(-1, 1), most), iv(0, 1)},
		{"of 1, -MaxPow", power.Pown(iv(-1, 1), -most), iv(1, inf)},
		{"next to 1, MaxPow", power.Pown(iv(1+0x1p-52, 1+0x1p-52), most), iv(1+0x1p-42, 1+0x1p-42+0x1p-52)},
		{"past MaxPow", power.Pown(iv(1, 1), most+1), entire},
		{"past -MaxPow", power.Pown(iv(0, 0), -most-1), entire},
	})
}

// W1, of one operation: what it makes of elements is held.
func TestPowersAreHeld(t *testing.T) {
	d := dice(7002)
	for range 2500 {
		x, n := d.interval(), d.power()
		got := power.Pown(x, n)
		for range 4 {
			if p := d.element(x); (p != 0 || n >= 0) && !holds(got, powered(p, n, 1)) {
				t.Errorf("Pown({%x, %x}, %d) = %x does not hold the power of %x", x.Lo, x.Hi, n, got, p)
			}
		}
	}
}
