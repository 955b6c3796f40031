package round

import (
	"math"
	"testing"

	"verge/nat"
)

// P3.8, P3.12: a root is found, and soon enough, from any guess: a good one hides a search that is
// wrong.
func TestRootFromAnyGuess(t *testing.T) {
	for _, x := range []float64{2, 27, 1, 0x1p-1074, 0x1p90, 0.1, 1 + 0x1p-52, 1 - 0x1p-53, 0x1p96 - 0x1p43, math.MaxFloat64} {
		for _, n := range []int{2, 3, 5, 31, 96} {
			whole, _ := stretched(take(x), n)
			root, more := wholeRoot(whole, n, guess(whole, n))
			if below, above := against(whole, root, n), against(whole, root+1, n); below > 0 || above <= 0 || more != (below < 0) {
				t.Errorf("root %d of %x: %d, %v", n, x, root, more)
			}
			for _, near := range guesses(root) {
				if r, m := wholeRoot(whole, n, near); r != root || m != more {
					t.Errorf("root %d of %x, from %d: %d, %v, want %d, %v", n, x, near, r, m, root, more)
				}
			}
		}
	}
}

// against tells -1, 0 or 1, as v to the n is below a, a, or above it.
func against(a []uint32, v uint64, n int) int {
	power, _ := nat.Pow(nat.Small(v), n)
	return nat.Cmp(power, a)
}

func guesses(root uint64) []uint64 {
	l := []uint64{0, 1, 7, 8, 9, 1<<53 - 9, 1 << 53, 1<<53 + 9, 1<<54 - 9, 1 << 54, 1<<54 + 9, 1 << 63, math.MaxUint64 - 8, math.MaxUint64}
	for by := range uint64(12) {
		l = append(l, root-by, root+by, root-by*by*by*by*1000, root+by*by*by*by*1000)
	}
	return l
}

// The guess is what keeps roots quick: it lies within what is looked at first.
func TestGuessIsNear(t *testing.T) {
	for n := 3; n <= 1024; n += 1 + n/9 {
		for k := range 40 {
			x := math.Ldexp(1+float64(k)*0.0249, 51*k-1030)
			whole, _ := stretched(take(x), n)
			near := guess(whole, n)
			if against(whole, near-8, n) > 0 || against(whole, near+8, n) <= 0 {
				t.Errorf("root %d of %x: the guess is %d", n, x, near)
			}
		}
	}
}
