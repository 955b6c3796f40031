package nat

import "math/bits"

// quotient tells a by b, and what is left, of b above 0.
func quotient(a, b []uint32) (q, r []uint32) {
	switch {
	case Cmp(a, b) < 0:
		return nil, fresh(a)
	case len(b) == 1:
		return byWord(a, b[0])
	}
	return byWords(a, b)
}

// byWord divides by a word above 0.
func byWord(a []uint32, b uint32) (q, r []uint32) {
	q = make([]uint32, len(a))
	var rest uint32
	for i := range len(a) {
		at := len(a) - 1 - i
		q[at], rest = bits.Div32(rest, a[at], b)
	}
	return trim(q), Small(uint64(rest))
}

// byWords divides as on paper, word by word, by b of two words or more, which is not above a. Both are
// first raised until the highest bit of b's highest word is 1: then a word of the quotient can be
// found of the highest words alone, hardly ever one too great.
func byWords(a, b []uint32) (q, r []uint32) {
	shift := bits.LeadingZeros32(b[len(b)-1])
	v := raised(b, shift)
	u := make([]uint32, len(a)+1)
	raiseInto(u, a, shift)
	q = make([]uint32, len(a)-len(b)+1)
	for i := range len(q) {
		at := len(q) - 1 - i
		q[at] = takeOff(u[at:at+len(v)+1], v)
	}
	return trim(q), lowered(u[:len(v)], shift)
}

// takeOff tells how often v goes into u, which has one word more than v and is less than 2^32 times v,
// and leaves the rest in u's lower words. (The highest one would be 0: it is not asked again.)
func takeOff(u, v []uint32) uint32 {
	n := len(v)
	q := trial(uint64(u[n])<<wordBits|uint64(u[n-1]), u[n-2], v[n-1], v[n-2])
	if subTimes(u, v, q) {
		q--
		putBack(u, v)
	}
	return q
}

// trial tells how often v1 v0 goes into head u: which is how often all of v goes into all of u, or one
// more. The first guess, of v1 alone, may be too great by two, and even be no word. It is too great as
// long as what it leaves of head and u is below its product with v0; once that rest is no word it
// cannot be.
func trial(head uint64, u, v1, v0 uint32) uint32 {
	q, rest := head/uint64(v1), head%uint64(v1)
guess:
	for rest>>wordBits == 0 {
		switch {
		case q>>wordBits != 0, q*uint64(v0) > rest<<wordBits|uint64(u):
			q--
			rest += uint64(v1)
		default:
			break guess
		}
	}
	return uint32(q)
}

// subTimes takes v times a word off u, which has one word more than v, and tells whether that was more
// than u.
func subTimes(u, v []uint32, word uint32) bool {
	var owed uint64
	var borrow uint32
	for i := range len(v) {
		owed += uint64(v[i]) * uint64(word)
		u[i], borrow = bits.Sub32(u[i], uint32(owed), borrow)
		owed >>= wordBits
	}
	return uint64(u[len(v)]) < owed+uint64(borrow)
}

// putBack adds v to the lower words of u; what is carried out of them makes good what subTimes owed.
func putBack(u, v []uint32) {
	var carry uint32
	for i := range len(v) {
		u[i], carry = bits.Add32(u[i], v[i], carry)
	}
}
