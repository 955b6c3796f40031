package total

import (
	"math"
	"math/bits"

	"verge/nat"
	"verge/round"
)

// The words of a sum: a whole number of 2^least, the lowest word first, below 0 as two's complement.

const (
	// least is the exponent of the least number's square, of which all terms are multiples.
	least = -2148
	// wordBits times wordCount is enough: a product is below 2^2048, 2^62 of them below 2^2110, which
	// is 2^4258 times 2^least; and there is the sign.
	wordBits  = 64
	wordCount = 67
	// rootGuard bits more of a root than there are of its number's half: enough for all that is kept
	// of a root, and one more.
	rootGuard = 64
)

type words [wordCount]uint64

// lay adds a number of two words times 2^exp, or takes it off, and carries on from there as far as
// it goes.
func (w *words) lay(neg bool, high, low uint64, exp int) {
	at, up := (exp-least)/wordBits, uint(exp-least)%wordBits
	down := wordBits - up
	parts := [3]uint64{low << up, high<<up | low>>down, high >> down}
	flip := flipOf(neg)
	var carry uint64
	for i, part := range parts {
		w[at+i], carry = step(w[at+i], part, carry, flip)
	}
	for i := at + len(parts); carry > 0 && i < len(w); i++ {
		w[i], carry = step(w[i], 0, carry, flip)
	}
}

// flipOf: to take off is to add where every bit is the other one: a - b is ^(^a + b).
func flipOf(neg bool) uint64 {
	if neg {
		return math.MaxUint64
	}
	return 0
}

func step(word, part, carry, flip uint64) (uint64, uint64) {
	sum, carry := bits.Add64(word^flip, part, carry)
	return sum ^ flip, carry
}

func (w words) plus(v words) words {
	var carry uint64
	for i := range w {
		w[i], carry = bits.Add64(w[i], v[i], carry)
	}
	return w
}

func (w words) turned() words {
	carry := uint64(1)
	for i := range w {
		w[i], carry = bits.Add64(^w[i], 0, carry)
	}
	return w
}

func (w words) sign() int {
	switch {
	case w.below():
		return -1
	case w == words{}:
		return 0
	}
	return 1
}

func (w words) below() bool { return w[wordCount-1]>>(wordBits-1) > 0 }

// natural tells the magnitude as layer 2 has it, and whether the number is below 0. It turns its own
// copy alone.
func (w words) natural() (neg bool, sig []uint32) {
	neg = w.below()
	if neg {
		w = w.turned()
	}
	sig = make([]uint32, 0, 2*wordCount)
	for _, x := range w {
		sig = append(sig, uint32(x), uint32(x>>32))
	}
	return neg, sig
}

// squareRoot tells the root of sig times 2^least. Behind the bits that are found stands one for all
// that follow.
func squareRoot(d int, sig []uint32) float64 {
	long, _ := nat.Shl(sig, 2*rootGuard)
	root, square, _ := nat.Root(long)
	root, _ = nat.Shl(root, 1)
	if !square {
		root, _ = nat.Add(root, nat.Small(1))
	}
	return round.Of(d, false, root, least/2-rootGuard-1)
}
