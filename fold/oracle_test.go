package fold_test

import (
	"math"
	"math/big"
	"slices"
	"testing"

	"verge/api"
	"verge/fold"
)

// What the tests measure by: the chapter's words and DOC.md's for the least interval, on math/big.

const (
	greatest = math.MaxFloat64
	least    = math.SmallestNonzeroFloat64
	e        = 0x1p-52
	maxInt   = math.MaxInt
	minInt   = math.MinInt
	// all numbers are whole multiples of 2^-half, their products of its square
	half = 1074
)

var (
	inf    = math.Inf(1)
	nan    = math.NaN()
	signed = math.Copysign(0, -1)
	empty  = iv(inf, -inf)
	entire = iv(-inf, inf)
)

type list = []api.Interval

func iv(lo, hi float64) api.Interval { return api.Interval{Lo: lo, Hi: hi} }
func pt(x float64) api.Interval      { return iv(x, x) }

// points tells the list of single numbers.
func points(l ...float64) list {
	var out list
	for _, x := range l {
		out = append(out, pt(x))
	}
	return out
}

// same: bit for bit.
func same(x, y api.Interval) bool {
	return math.Float64bits(x.Lo) == math.Float64bits(y.Lo) && math.Float64bits(x.Hi) == math.Float64bits(y.Hi)
}

// asRead: DOC.md, 'What is handed in', 2.
func asRead(x api.Interval) api.Interval {
	if math.IsNaN(x.Lo) || math.IsNaN(x.Hi) || x.Lo > x.Hi || x.Lo == inf || x.Hi == -inf {
		return empty
	}
	return iv(x.Lo+0, x.Hi+0)
}

// real is a bound: an infinity, or num times 2^-half times 2^-half.
type real struct {
	infinity int
	num      *big.Int
}

// scaled tells x times 2^half.
func scaled(x float64) *big.Int {
	whole, _ := new(big.Float).SetMantExp(big.NewFloat(x), half).Int(nil)
	return whole
}

func signOf(x float64) int {
	switch {
	case x > 0:
		return 1
	case x < 0:
		return -1
	}
	return 0
}

// product tells x times y; 0 times an infinity is 0.
func product(x, y float64) real {
	sign := signOf(x) * signOf(y)
	if (math.IsInf(x, 0) || math.IsInf(y, 0)) && sign != 0 {
		return real{infinity: sign}
	}
	if sign == 0 {
		return real{num: new(big.Int)}
	}
	return real{num: new(big.Int).Mul(scaled(x), scaled(y))}
}

func number(x float64) real { return product(x, 1) }

func (a real) plus(b real) real {
	switch {
	case a.infinity*b.infinity < 0:
		panic("two unlike infinities are added")
	case a.infinity != 0:
		return a
	case b.infinity != 0:
		return b
	}
	return real{num: new(big.Int).Add(a.num, b.num)}
}

func (a real) minus() real {
	if a.infinity != 0 {
		return real{infinity: -a.infinity}
	}
	return real{num: new(big.Int).Neg(a.num)}
}

func order(a, b real) int {
	if a.infinity != 0 || b.infinity != 0 {
		return a.infinity - b.infinity
	}
	return a.num.Cmp(b.num)
}

// call is one of the six. Those of one list take the first one.
type call struct {
	name string
	ask  func(a, b list, workers int) (api.Interval, api.Errno)
	// ends tells reals of which the least and the greatest bound the range of one part of the sum.
	ends func(x, y api.Interval) []real
	// value tells the part of a sum that elements make.
	value func(x, y float64) real
	// measure tells what the exact sum of a list of n parts is when the answer is x.
	measure func(x float64, n int) *big.Int
}

// both tells whether the call takes two lists.
func (c call) both() bool { return c.name == "Dot" }

func ofOne(f func(l []api.Interval, workers int) (api.Interval, api.Errno)) func(a, b list, workers int) (api.Interval, api.Errno) {
	return func(a, _ list, workers int) (api.Interval, api.Errno) { return f(a, workers) }
}

func calls() []call {
	itself := func(x float64, _ int) *big.Int { return product(x, 1).num }
	times := func(x float64, n int) *big.Int { return new(big.Int).Mul(product(x, 1).num, big.NewInt(int64(n))) }
	square := func(x float64, _ int) *big.Int { return product(x, math.Abs(x)).num } // its sign stays
	return []call{
		{"Sum", ofOne(fold.Sum), sumEnds, sumValue, itself},
		{"Abs", ofOne(fold.Abs), absEnds, absValue, itself},
		{"Squares", ofOne(fold.Squares), squareEnds, squareValue, itself},
		{"Mean", ofOne(fold.Mean), sumEnds, sumValue, times},
		{"Norm2", ofOne(fold.Norm2), squareEnds, squareValue, square},
		{"Dot", fold.Dot, productEnds, product, itself},
	}
}

func sumValue(x, _ float64) real    { return number(x) }
func absValue(x, _ float64) real    { return number(math.Abs(x)) }
func squareValue(x, _ float64) real { return product(x, x) }

func sumEnds(x, _ api.Interval) []real { return []real{number(x.Lo), number(x.Hi)} }

func absEnds(x, _ api.Interval) []real {
	return withNought(x, number(math.Abs(x.Lo)), number(math.Abs(x.Hi)))
}

func squareEnds(x, _ api.Interval) []real {
	return withNought(x, product(x.Lo, x.Lo), product(x.Hi, x.Hi))
}

// withNought adds 0 to the values at the ends, where it is an element.
func withNought(x api.Interval, l ...real) []real {
	if x.Lo <= 0 && x.Hi >= 0 {
		l = append(l, number(0))
	}
	return l
}

func productEnds(x, y api.Interval) []real {
	return []real{product(x.Lo, y.Lo), product(x.Lo, y.Hi), product(x.Hi, y.Lo), product(x.Hi, y.Hi)}
}

// span is what a call's exact sums lie between; none, if there are no such sums.
type span struct {
	none   bool
	lo, hi real
}

func (c call) span(a, b list) span {
	s := span{lo: number(0), hi: number(0)}
	for i := range a {
		x, y := asRead(a[i]), pt(0)
		if c.both() {
			y = asRead(b[i])
		}
		if x == empty || y == empty {
			return span{none: true}
		}
		ends := c.ends(x, y)
		s.lo = s.lo.plus(slices.MinFunc(ends, order))
		s.hi = s.hi.plus(slices.MaxFunc(ends, order))
	}
	return s
}

// isLeast tells by the words for the least interval whether lo is its lower end: not above the
// bound, and no greater number is so.
func isLeast(lo float64, bound real, measure func(x float64) *big.Int) bool {
	atMost := func(x float64) bool {
		if math.IsInf(x, 0) {
			return x < 0
		}
		return order(real{num: measure(x)}, bound) <= 0
	}
	return lo != inf && atMost(lo) && !atMost(math.Nextafter(lo, inf))
}

func isPlain(x float64) bool { return x == x && (x != 0 || !math.Signbit(x)) }

// right tells whether x is the call's answer for n parts whose sums lie in s.
func (c call) right(x api.Interval, s span, n int) bool {
	if s.none {
		return same(x, empty)
	}
	measure := func(x float64) *big.Int { return c.measure(x, n) }
	return isPlain(x.Lo) && isPlain(x.Hi) && isLeast(x.Lo, s.lo, measure) && isLeast(-x.Hi, s.hi.minus(), measure)
}

// refuses tells whether the call answers ErrArg.
func (c call) refuses(a, b list, workers int) bool {
	return workers < 1 || workers > 16 || c.name == "Mean" && len(a) == 0 || c.both() && len(a) != len(b)
}

// check holds a call with so many workers against the words.
func (c call) check(t *testing.T, a, b list, workers ...int) {
	t.Helper()
	var s span
	if !c.both() || len(a) == len(b) {
		s = c.span(a, b)
	}
	for _, w := range workers {
		x, err := c.ask(a, b, w)
		switch {
		case c.refuses(a, b, w):
			if err != api.ErrArg || !same(x, iv(0, 0)) {
				t.Errorf("%s(%s, %s, %d) = %x, %d; want ErrArg", c.name, shown(a), shown(b), w, x, err)
			}
		case err != api.OK || !c.right(x, s, len(a)):
			t.Errorf("%s(%s, %s, %d) = %x, %d", c.name, shown(a), shown(b), w, x, err)
		}
	}
}

// checkAll holds all calls against the words.
func checkAll(t *testing.T, a, b list, workers ...int) {
	t.Helper()
	for _, c := range calls() {
		c.check(t, a, b, workers...)
	}
}

func is(t *testing.T, got, want api.Interval, format string, args ...any) {
	t.Helper()
	if !same(got, want) {
		t.Errorf(format+" = {%x, %x}, want {%x, %x}", append(args, got.Lo, got.Hi, want.Lo, want.Hi)...)
	}
}

// everyCrew is each number of workers that is allowed.
func everyCrew() []int {
	var out []int
	for w := range 16 {
		out = append(out, w+1)
	}
	return out
}

// gives holds a call with each number of workers against an answer.
func gives(t *testing.T, name string, want api.Interval, a list, b ...api.Interval) {
	t.Helper()
	for _, c := range calls() {
		if c.name != name {
			continue
		}
		for _, w := range everyCrew() {
			x, err := c.ask(a, b, w)
			is(t, x, want, "%s(%s, %s, %d)", name, shown(a), shown(b), w)
			if err != api.OK {
				t.Errorf("%s(%s, %s, %d): error %d", name, shown(a), shown(b), w, err)
			}
		}
		return
	}
	t.Errorf("there is no %s", name)
}
