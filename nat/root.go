package nat

// root tells the greatest s with s s at most a, and a - s s.
//
// With l a quarter of a's bits, a is h 4^l + m 2^l + w, m and w below 2^l. Of h, about half as long as
// a, root itself tells t and a rest k. Then q, of k 2^l + m by 2 t, makes t 2^l + q the root, or one
// more than it (Zimmermann, 'Karatsuba Square Root', 1999): since h is at least 4^l, t is at least
// 2^l, q at most 2^l, and its square at most 4^l, less than one step of the root weighs.
func root(a []uint32) (s, rest []uint32) {
	if len(a) <= 2 {
		return rootOfWord(lowest(a))
	}
	l := (Len(a) - 1) / 4
	t, k := root(lowered(a, 2*l))
	q, left := quotient(sum(raised(k, l), remnant(lowered(a, l), l)), raised(t, 1))
	s = sum(raised(t, l), q)
	rest = sum(raised(left, l), remnant(a, l))
	square := product(q, q)
	if Cmp(rest, square) < 0 { // one too great: s s - (s - 1)(s - 1) is s + s - 1
		rest = sum(rest, s)
		s = difference(s, Small(1))
		rest = sum(rest, s)
	}
	return s, difference(rest, square)
}

// rootOfWord finds the root bit by bit, from the highest one that it may have.
func rootOfWord(v uint64) (s, rest []uint32) {
	var r uint64
	for i := range wordBits {
		if t := r | 1<<(wordBits-1-i); t*t <= v {
			r = t
		}
	}
	return Small(r), Small(v - r*r)
}
