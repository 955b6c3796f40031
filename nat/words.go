package nat

import "math/bits"

// The functions of this file, and those of quotient.go and root.go, take normal lists (unless one says
// otherwise), know no limit, and answer normal lists in new memory.

const wordBits = 32

// trim leaves off the words 0 at the high end. It answers a part of a, not new memory.
func trim(a []uint32) []uint32 {
	n := len(a)
	for n > 0 && a[n-1] == 0 {
		n--
	}
	return a[:n]
}

// fresh tells a in new memory.
func fresh(a []uint32) []uint32 {
	out := make([]uint32, len(a))
	copy(out, a)
	return out
}

// lowest tells a's two lowest words as one number.
func lowest(a []uint32) uint64 {
	var v uint64
	for i := range min(len(a), 2) {
		v |= uint64(a[i]) << (i * wordBits)
	}
	return v
}

func sum(a, b []uint32) []uint32 {
	if len(a) < len(b) {
		a, b = b, a
	}
	out := make([]uint32, len(a)+1)
	copy(out, a)
	var carry uint32
	for i := range len(b) {
		out[i], carry = bits.Add32(a[i], b[i], carry)
	}
	for i := len(b); carry != 0; i++ { // it ends at the one word more, which is 0
		out[i], carry = bits.Add32(out[i], 0, carry)
	}
	return trim(out)
}

// difference tells a - b, of b not above a.
func difference(a, b []uint32) []uint32 {
	out := fresh(a)
	var borrow uint32
	for i := range len(b) {
		out[i], borrow = bits.Sub32(a[i], b[i], borrow)
	}
	for i := len(b); borrow != 0; i++ { // it ends within a, since b is not above it
		out[i], borrow = bits.Sub32(out[i], 0, borrow)
	}
	return trim(out)
}

func product(a, b []uint32) []uint32 {
	out := make([]uint32, len(a)+len(b))
	for i := range len(a) {
		if a[i] != 0 { // powers of 2 have hardly any other words
			out[i+len(b)] = addTimes(out[i:i+len(b)], b, a[i])
		}
	}
	return trim(out)
}

// addTimes adds b times a word to a part of a product that is as long as b, and tells what is carried
// out of it. (No step is too great for 64 bits: (2^32 - 1)^2 + 2 (2^32 - 1) is 2^64 - 1.)
func addTimes(part, b []uint32, word uint32) uint32 {
	var carry uint64
	for i := range len(b) {
		carry += uint64(b[i])*uint64(word) + uint64(part[i])
		part[i] = uint32(carry)
		carry >>= wordBits
	}
	return uint32(carry)
}

// raised tells a times 2^n.
func raised(a []uint32, n int) []uint32 {
	if len(a) == 0 {
		return nil
	}
	words := n / wordBits
	out := make([]uint32, words+len(a)+1)
	raiseInto(out[words:], a, n%wordBits)
	return trim(out)
}

// raiseInto writes a times 2^n, of n below the bits of a word, into a list with one word more than a.
func raiseInto(out, a []uint32, n int) {
	var carry uint32
	for i := range len(a) {
		out[i] = a[i]<<n | carry
		carry = a[i] >> (wordBits - n) // 0 of n = 0: all bits go
	}
	out[len(a)] = carry
}

// lowered tells a by 2^n without its fraction. Here a need not be normal.
func lowered(a []uint32, n int) []uint32 {
	words, n := n/wordBits, n%wordBits
	if words >= len(a) {
		return nil
	}
	out := fresh(a[words:])
	for i := range len(out) - 1 {
		out[i] = out[i]>>n | out[i+1]<<(wordBits-n)
	}
	out[len(out)-1] >>= n
	return trim(out)
}

// remnant tells what a by 2^n leaves, its lowest n bits, of n below Len(a).
func remnant(a []uint32, n int) []uint32 {
	words, n := n/wordBits, n%wordBits
	out := fresh(a[:words+1])
	out[words] &= 1<<n - 1
	return trim(out)
}
