package infix

import (
	"slices"
	"strconv"

	"verge/api"
)

// The parts of a formula that was read.
type (
	part any

	numeral string
	literal string

	// named is a name that is known, by its number: the variables, then the statements.
	named int

	// call is an operation of some parts, from the left to the right.
	call struct {
		op int
		of []part
	}

	// power is a part to a whole power.
	power struct {
		base part
		n    int
	}

	// chain is parts, of which the first may be the only one, that are joined from the left. (One by one
	// within each other they could nest as deep as the text is long.)
	chain struct {
		first part
		rest  []link
	}
)

// link is a part that is joined, by an operation, to what stands ahead of it.
type link struct {
	op int
	to part
}

// fault is what the reader gives up with.
type fault struct {
	at int
	e  api.Errno
}

// taken is the reader's face: it tells the program of a formula, or the fault that the reader gave up with.
func taken(text string, names []string) (p api.Program, at int, e api.Errno) {
	defer func() {
		if r := recover(); r != nil {
			f := r.(fault) // a panic of another kind says nothing of the text: it is not stopped here
			p, at, e = api.Program{}, f.at, f.e
		}
	}()
	r := reader{text: text, now: scan(text, 0), known: map[string]int{}}
	for i, name := range names {
		r.known[name] = i
	}
	sums := r.formula()
	if r.consts > api.MaxConsts {
		panic(fault{len(text), api.ErrConst})
	}
	p = made(len(names), sums)
	if len(p.Code) > api.MaxCode {
		panic(fault{len(text), api.ErrCode})
	}
	return p, 0, api.OK
}

// reader goes through the tokens of a text. It gives up at the first one at which there is a fault: so
// that of several the one with the least place is told.
type reader struct {
	text   string
	now    token          // the next one to be taken
	known  map[string]int // names, numbered in the order in which they became known
	open   int            // how many brackets and minuses are
	consts int
}

func (r *reader) take() token {
	t := r.now
	r.now = scan(r.text, t.end())
	return t
}

// must takes a token of a kind: no other may stand here.
func (r *reader) must(kind rune) token {
	t := r.take()
	if t.kind != kind {
		panic(fault{t.at, api.ErrText})
	}
	return t
}

// enter takes a sign that is open until leave is called.
func (r *reader) enter(kind rune) {
	t := r.must(kind)
	r.open++
	if r.open > api.MaxDeep {
		panic(fault{t.at, api.ErrDeep})
	}
}

func (r *reader) leave() { r.open-- }

// formula takes the whole text: it tells the sums of the statements, and behind them the last one.
func (r *reader) formula() []part {
	var sums []part
	for r.gives() {
		sums = append(sums, r.statement())
	}
	sums = append(sums, r.sum())
	r.must(theEnd)
	return sums
}

// gives tells whether a name is given here.
func (r *reader) gives() bool {
	return r.now.kind == aName && scan(r.text, r.now.end()).kind == '='
}

func (r *reader) statement() part {
	given := r.take()
	if _, ok := r.known[given.text]; ok {
		panic(fault{given.at, api.ErrName})
	}
	r.must('=')
	x := r.sum()
	r.must(';')
	r.known[given.text] = len(r.known)
	return x
}

func (r *reader) sum() part { return r.chain(r.product, '+', '-') }

func (r *reader) product() part { return r.chain(r.signed, '*', '/') }

// chain takes parts with one of some signs between each two.
func (r *reader) chain(next func() part, between ...rune) part {
	x := chain{first: next()}
	for slices.Contains(between, r.now.kind) {
		op := joining(r.take().kind)
		x.rest = append(x.rest, link{op, next()})
	}
	return x
}

func (r *reader) signed() part {
	if r.now.kind != '-' {
		return r.power()
	}
	r.enter('-')
	x := r.signed()
	r.leave()
	return call{api.OpNeg, []part{x}}
}

func (r *reader) power() part {
	base := r.atom()
	if r.now.kind != '^' {
		return base
	}
	r.take()
	return power{base, r.whole()}
}

// whole takes a power, with or without its minus.
func (r *reader) whole() int {
	sign := 1
	if r.now.kind == '-' {
		r.take()
		sign = -1
	}
	t := r.must(aNumeral)
	if !isWhole(t.text) {
		panic(fault{t.at, api.ErrText})
	}
	n, err := strconv.Atoi(t.text)
	if err != nil || n > api.MaxPow { // digits are refused for their size alone
		panic(fault{t.at, api.ErrPower})
	}
	return sign * n
}

func isWhole(numeral string) bool {
	return run(numeral, isDigit) == numeral && (numeral == "0" || numeral[0] != '0')
}

func (r *reader) atom() part {
	switch r.now.kind {
	case aNumeral:
		r.consts++
		return numeral(r.take().text)
	case aLiteral:
		r.consts++
		return literal(r.take().text)
	case aWord:
		return r.call()
	case '(':
		r.enter('(')
		x := r.sum()
		r.must(')')
		r.leave()
		return x
	}
	return r.used()
}

// used takes a name that stands for something.
func (r *reader) used() part {
	t := r.must(aName)
	n, ok := r.known[t.text]
	if !ok {
		panic(fault{t.at, api.ErrName})
	}
	return named(n)
}

// call takes a word, and what stands in its brackets.
func (r *reader) call() part {
	w, _ := wordOf(r.take().text)
	r.enter('(')
	of := []part{r.sum()}
	for len(of) < w.sums {
		r.must(',')
		of = append(of, r.sum())
	}
	var x part = call{w.op, of}
	if w.op == api.OpPown {
		r.must(',')
		x = power{of[0], r.whole()}
	}
	r.must(')')
	r.leave()
	return x
}
