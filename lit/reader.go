package lit

import (
	"verge/api"
	"verge/digits"
)

// fault is what the reader gives up with.
type fault struct {
	at int
	e  api.Errno
}

// taken is the reader's face: it tells what a text says, or the fault that the reader gave up with.
func taken(s string, decorated bool) (said literal, at int, e api.Errno) {
	defer func() {
		if r := recover(); r != nil {
			f := r.(fault) // a panic of another kind says nothing of the text: it is not stopped here
			at, e = f.at, f.e
		}
	}()
	if len(s) > api.MaxText {
		panic(fault{api.MaxText, api.ErrLong})
	}
	r := reader{text: s, decorated: decorated}
	said = r.all()
	if r.kept.e != api.OK {
		panic(r.kept)
	}
	return said, 0, api.OK
}

// reader goes through a text: what is ahead of at is a beginning of some literal.
type reader struct {
	text      string
	decorated bool
	at        int
	kept      fault
}

func (r *reader) giveUp() { panic(fault{r.at, api.ErrLit}) }

// keep is for what is wrong with a text that has a literal's form: it is told only when all of the
// text is known to have it, and the first such fault alone.
func (r *reader) keep(at int, e api.Errno) {
	if r.kept.e == api.OK {
		r.kept = fault{at, e}
	}
}

// all takes the whole text.
func (r *reader) all() literal {
	said := literal{rank: api.Com} // without a word the strongest one, as far as the interval may have it
	if r.takes("[") {
		said.set = r.bracketed()
	} else {
		said.set = r.uncertain()
	}
	if r.decorated && !said.ill && r.takes("_") {
		said.rank = r.rank(said.set)
	}
	if r.at < len(r.text) {
		r.giveUp()
	}
	return said
}

// bracketed takes what stands behind an opening bracket, up to the closing one.
func (r *reader) bracketed() set {
	low := r.next(r.openings()...)
	switch {
	case low.word == "nai":
		r.must("]")
		return set{ill: true}
	case low.word == "empty":
		r.must("]")
		return set{void: true}
	case low.word == "entire":
		r.must("]")
		return set{}
	case low.word == "" && r.takes("]"):
		return set{void: low.numeral == "", low: low.numeral, high: low.numeral}
	}
	r.must(",")
	high := r.next("inf", "+inf", "infinity", "+infinity")
	r.must("]")
	if order, _, _ := digits.Cmp(low.numeral, high.numeral); order > 0 { // no order, where one is missing or refused
		r.keep(high.at, api.ErrLit)
	}
	return set{low: low.numeral, high: high.numeral}
}

func (r *reader) openings() []string {
	words := []string{"empty", "entire", "-inf", "-infinity"}
	if r.decorated {
		words = append(words, "nai")
	}
	return words
}

// item is what may stand on one side of a comma: a word, a numeral and its place, or nothing.
type item struct {
	word, numeral string
	at            int
}

// next takes one of some words, or a numeral, or nothing, and the blanks on both sides of it.
func (r *reader) next(words ...string) item {
	r.run(isBlank)
	at := r.at
	piece := r.run(isInside)
	r.run(isBlank)
	if piece == "" {
		return item{}
	}
	longest, ok := r.numeral(at, piece)
	if ok {
		return item{numeral: piece, at: at}
	}
	for _, word := range words {
		n := alike(piece, word)
		if n == len(piece) && n == len(word) {
			return item{word: word}
		}
		longest = max(longest, n)
	}
	panic(fault{at + longest, api.ErrLit})
}

// numeral tells whether a piece of the text is a numeral; if it is none, how many of its bytes begin one.
func (r *reader) numeral(at int, piece string) (n int, ok bool) {
	_, n, e := digits.Read(api.Near, piece)
	switch {
	case e == api.ErrExp:
		r.keep(at+n, api.ErrExp)
	case e == api.ErrDigits && starts(piece[n:], decimalDigits):
		// A digit may stand behind whatever begins a numeral: where one is told, it is a ratio by 0.
		r.keep(at+n, api.ErrLit)
	case e == api.ErrDigits:
		return n, false
	}
	return len(piece), true
}

// rank takes the word of a decoration, behind its underscore.
func (r *reader) rank(s set) int {
	under, rest, longest := r.at-1, r.text[r.at:], 0
	for _, known := range ranks {
		n := alike(rest, known.word)
		if n == len(known.word) {
			if !s.mayHave(known.d) {
				r.keep(under, api.ErrLit)
			}
			r.at += n
			return known.d
		}
		longest = max(longest, n)
	}
	panic(fault{r.at + longest, api.ErrLit})
}
