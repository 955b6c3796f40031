package round

import (
	"math"

	"verge/nat"
)

// Roots of exact numbers. The root is taken of a natural with so many bits that the root's whole part
// is long enough to be rounded.

// rootBits are one more than binary64 has: then comes the bit that stands for all others.
const rootBits = 54

// stretched tells a's natural with so many noughts behind it that its n-th root has rootBits bits,
// and the exponent that belongs to that root.
func stretched(a exact, n int) (whole []uint32, exp int) {
	up := (rootBits-1)*n + 1 - nat.Len(a.sig)
	up += residue(a.exp-up, n)
	whole, _ = nat.Shl(a.sig, up)
	return whole, (a.exp - up) / n
}

// residue tells what is left of a by n, from 0 on.
func residue(a, n int) int { return (a%n + n) % n }

// squareRoot takes a number above 0.
func squareRoot(d int, a exact) float64 {
	whole, exp := stretched(a, 2)
	root, square, _ := nat.Root(whole)
	head, _ := nat.Word(root)
	return rounded[float64](d, false, marked(head, !square), exp-1)
}

// anyRoot takes a number other than 0, and n from 2 on.
func anyRoot(d int, a exact, n int) float64 {
	whole, exp := stretched(a, n)
	head, more := wholeRoot(whole, n, guess(whole, n))
	return rounded[float64](d, a.neg, marked(head, more), exp-1)
}

// fence: a root is not below low and below high; more tells that it is not low.
type fence struct {
	low, high uint64
	more      bool
}

// wholeRoot tells the greatest number whose n-th power is at most a, and whether that is less. The
// root has rootBits bits. It is found whatever near is, and soon, if it is not 8 away from the root.
func wholeRoot(a []uint32, n int, near uint64) (root uint64, more bool) {
	f := fence{1<<(rootBits-1) - 1, 1 << rootBits, true}
	f = f.narrowed(near-8, a, n)
	f = f.narrowed(near+8, a, n)
	for f.low+1 < f.high {
		f = f.narrowed(f.low+(f.high-f.low)/2, a, n)
	}
	return f.low, f.more
}

// narrowed puts one side of the fence to probe, unless that lies outside.
func (f fence) narrowed(probe uint64, a []uint32, n int) fence {
	if probe <= f.low || probe >= f.high {
		return f
	}
	power, _ := nat.Pow(nat.Small(probe), n)
	c := nat.Cmp(power, a)
	if c > 0 {
		return fence{f.low, probe, f.more}
	}
	return fence{probe, f.high, c < 0}
}

// guess tells a number near to what wholeRoot tells: 4 away at most, as far as was seen; no answer
// hangs on that.
func guess(a []uint32, n int) uint64 {
	head, shift := leading(a)
	scaled := math.Ldexp(float64(head), shift-(rootBits-1)*n)
	return uint64(math.Pow(scaled, 1/float64(n)) * (1 << (rootBits - 1)))
}
