package round

import (
	"math"
	"math/bits"

	"verge/api"
	"verge/fbit"
	"verge/nat"
)

// The exact road: numbers as naturals times powers of 2, and how they are rounded.

const (
	maxBits = 32 * api.MaxNat
	// headBits are kept of a long number, one bit more for all the others: two more than the widest
	// format has, and few enough for a word.
	headBits = 56
	// beyond is an exponent that outweighs all naturals: as an exponent's bound it makes no
	// difference, and keeps sums of exponents from wrapping round.
	beyond = 4 * maxBits
)

func tooLong(a []uint32) bool { return nat.Len(a) > maxBits }

func confined(exp int) int { return min(max(exp, -beyond), beyond) }

// exact is the number sig times 2^exp, or minus that. It is never too long: sums of products of
// floats have some 3200 bits at most, powers 54272.
type exact struct {
	neg bool
	sig []uint32
	exp int
}

// take makes sig odd, which keeps powers short.
func take(x float64) exact {
	neg, sig, exp, _ := fbit.Split(x)
	zeros := bits.TrailingZeros64(sig)
	return exact{neg, nat.Small(sig >> zeros), exp + zeros}
}

func (a exact) rounded(d int) float64 { return Of(d, a.neg, a.sig, a.exp) }

func (a exact) plus(b exact) exact {
	low := min(a.exp, b.exp)
	x, _ := nat.Shl(a.sig, a.exp-low)
	y, _ := nat.Shl(b.sig, b.exp-low)
	if a.neg == b.neg {
		sum, _ := nat.Add(x, y)
		return exact{a.neg, sum, low}
	}
	if nat.Cmp(x, y) < 0 {
		x, y, a = y, x, b
	}
	rest, _ := nat.Sub(x, y)
	return exact{a.neg, rest, low}
}

func (a exact) times(b exact) exact {
	product, _ := nat.Mul(a.sig, b.sig)
	return exact{a.neg != b.neg, product, a.exp + b.exp}
}

func (a exact) by(d int, b exact) float64 {
	return Ratio(d, a.neg != b.neg, a.sig, b.sig, a.exp-b.exp)
}

func (a exact) power(d, n int) float64 {
	neg := a.neg && n%2 != 0
	if n < 0 {
		p, _ := nat.Pow(a.sig, -n)
		return Ratio(d, neg, nat.Small(1), p, a.exp*n)
	}
	p, _ := nat.Pow(a.sig, n)
	return Of(d, neg, p, a.exp*n)
}

// marked puts a bit behind head that stands for all that is cut off there. A head of two bits more
// than are kept is rounded with it as with what it stands for.
func marked(head uint64, more bool) uint64 {
	if more {
		return head<<1 | 1
	}
	return head << 1
}

// leading tells a number as few bits, times 2^shift.
func leading(a []uint32) (head uint64, shift int) {
	cut := max(nat.Len(a)-headBits, 0)
	high, more, _ := nat.Shr(a, cut)
	head, _ = nat.Word(high)
	return marked(head, more), cut - 1
}

// quotient tells num by den as few bits, times 2^shift. Neither is 0 or too long.
func quotient(num, den []uint32) (head uint64, shift int) {
	up := headBits + nat.Len(den) - nat.Len(num)
	now := min(up, maxBits-nat.Len(num))
	if now < 0 {
		den, _ = nat.Shl(den, -now)
	} else {
		num, _ = nat.Shl(num, now)
	}
	q, rest, _ := nat.Quo(num, den)
	head, _ = nat.Word(q)
	for range up - now { // the bits for which num would be too long
		head, rest = nextBit(head, rest, den)
	}
	return marked(head, nat.Len(rest) > 0), -up - 1
}

// nextBit goes on with a division by one bit. Twice the rest may be too long to be held against den;
// what the rest lacks of den is not.
func nextBit(head uint64, rest, den []uint32) (uint64, []uint32) {
	lack, _ := nat.Sub(den, rest)
	if nat.Cmp(rest, lack) < 0 {
		rest, _ = nat.Add(rest, rest)
		return head << 1, rest
	}
	rest, _ = nat.Sub(rest, lack)
	return head<<1 | 1, rest
}

// rounded tells sig times 2^exp, or minus that, as a number of F. sig is below 2^60.
func rounded[F fbit.Float](d int, neg bool, sig uint64, exp int) F {
	if neg { // from here on the magnitude alone is looked at
		d = -d
	}
	width, least := formatOf[F]()
	last := max(exp, exp+bits.Len64(sig)-width, least) // the exponent of the last bit that is kept
	cut := min(last-exp, 61)                           // from 61 on sig is below half of what may be kept
	kept := sig >> cut
	if upward(d, kept, sig-kept<<cut, 1<<cut) {
		kept++
	}
	x, e := fbit.Join[F](neg, kept, last)
	if e == api.OK {
		return x
	}
	if d == api.Down { // too great
		return greatest[F](neg)
	}
	return infinity[F](neg)
}

// upward tells whether kept and a part (rest of whole) are rounded to one more than kept.
func upward(d int, kept, rest, whole uint64) bool {
	switch d {
	case api.Up:
		return rest > 0
	case api.Down:
		return false
	}
	return 2*rest > whole || 2*rest == whole && kept%2 == 1
}

// formatOf tells how many bits a number of F keeps, and the least exponent.
func formatOf[F fbit.Float]() (width, least int) {
	_, one, _, _ := fbit.Split(F(1))
	_, _, least, _ = fbit.Split(F(0))
	return bits.Len64(one), least
}

func infinity[F fbit.Float](neg bool) F {
	if neg {
		return F(math.Inf(-1))
	}
	return F(math.Inf(1))
}

func greatest[F fbit.Float](neg bool) F {
	if neg {
		return fbit.NextUp(infinity[F](neg))
	}
	return fbit.NextDown(infinity[F](neg))
}
