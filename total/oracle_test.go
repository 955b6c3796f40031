package total_test

import (
	"math"
	"math/big"
	"testing"

	"verge/api"
	"verge/total"
)

// What the tests measure by: the chapter's words, on math/big.

const (
	greatest = math.MaxFloat64
	least    = math.SmallestNonzeroFloat64
	e        = 0x1p-52
	maxInt   = math.MaxInt
	minInt   = math.MinInt
	// all terms are whole multiples of 2^-unit, all numbers of 2^-half
	unit = 2148
	half = 1074
)

var (
	inf   = math.Inf(1)
	nan   = math.NaN()
	minus = math.Copysign(0, -1)
)

// directions: the three, and some that are none of them.
var directions = []int{api.Down, api.Near, api.Up, 2, -2, maxInt, minInt}

// same: one pattern, or both NaN.
func same(x, y float64) bool {
	return x != x && y != y || math.Float64bits(x) == math.Float64bits(y)
}

func is(t *testing.T, got, want float64, format string, args ...any) {
	t.Helper()
	if !same(got, want) {
		t.Errorf(format+" = %v (%x), want %v (%x)", append(args, got, math.Float64bits(got), want, math.Float64bits(want))...)
	}
}

// scaled tells x times 2^n, which must be whole.
func scaled(x float64, n int) *big.Int {
	whole, _ := new(big.Float).SetMantExp(big.NewFloat(x), n).Int(nil)
	return whole
}

// part tells num / den times 2^-exp.
func part(num *big.Int, den int64, exp uint) *big.Rat {
	return new(big.Rat).SetFrac(num, new(big.Int).Lsh(big.NewInt(den), exp))
}

func isAbove(x float64, r *big.Rat) bool {
	if math.IsInf(x, 0) {
		return x > 0
	}
	return new(big.Rat).SetFloat64(x).Cmp(r) > 0
}

func isBelow(x float64, r *big.Rat) bool { return isAbove(-x, new(big.Rat).Neg(r)) }

// rounded is what the words 'to round' ask of a real.
func rounded(d int, r *big.Rat) float64 {
	x, _ := r.Float64()
	switch {
	case d == api.Down && isAbove(x, r):
		x = math.Nextafter(x, -inf)
	case d == api.Up && isBelow(x, r):
		x = math.Nextafter(x, inf)
	}
	return x + 0 // no -0
}

// rooted is the root of num times 2^-unit, rounded. Every number is a whole multiple of 2^-half, so
// that it is at most the root just if it is at most the root's whole part.
func rooted(d int, num *big.Int) float64 {
	whole := new(big.Int).Sqrt(num)
	down := rounded(api.Down, part(whole, 1, half))
	if new(big.Int).Mul(whole, whole).Cmp(num) < 0 {
		whole.Add(whole, big.NewInt(1))
	}
	up := rounded(api.Up, part(whole, 1, half))
	switch {
	case d == api.Down || down == up:
		return down
	case d == api.Up:
		return up
	}
	top := new(big.Int).Lsh(big.NewInt(1), 1024+half)
	if up < inf {
		top = scaled(up, half)
	}
	middle := top.Add(top, scaled(down, half)) // twice it
	c := middle.Mul(middle, middle).Cmp(new(big.Int).Lsh(num, 2))
	if c > 0 || c == 0 && math.Float64bits(down)%2 == 0 {
		return down
	}
	return up
}

// term is a number (y counts for nothing) or a product.
type term struct {
	x, y    float64
	product bool
}

func number(x float64) term     { return term{x, 0, false} }
func product(x, y float64) term { return term{x, y, true} }

func (m term) layIn(s *total.Sum) {
	if m.product {
		s.Mul(m.x, m.y)
	} else {
		s.Add(m.x)
	}
}

func (m term) turned() term { return term{-m.x, m.y, m.product} }

// sumOf makes a sum of terms.
func sumOf(l ...term) *total.Sum {
	s := total.New()
	for _, m := range l {
		m.layIn(s)
	}
	return s
}

// of makes a sum of numbers.
func of(l ...float64) *total.Sum {
	s := total.New()
	for _, x := range l {
		s.Add(x)
	}
	return s
}

// model is a sum as the chapter's words tell it.
type model struct {
	num         *big.Int // of 2^-unit
	terms       *big.Int
	plus, minus bool
	none        bool
}

func newModel() *model { return &model{num: new(big.Int), terms: new(big.Int)} }

func modelOf(l ...term) *model {
	m := newModel()
	for _, x := range l {
		m.take(x)
	}
	return m
}

func (m *model) copied() *model {
	c := *m
	c.num, c.terms = new(big.Int).Set(m.num), new(big.Int).Set(m.terms)
	return &c
}

func signOf(x float64) int {
	switch {
	case x > 0:
		return 1
	case x < 0:
		return -1
	}
	return 0
}

func (m *model) take(a term) {
	m.terms.Add(m.terms, big.NewInt(1))
	if !a.product {
		a.y = 1
	}
	infinite := math.IsInf(a.x, 0) || math.IsInf(a.y, 0)
	sign := signOf(a.x) * signOf(a.y)
	switch {
	case a.x != a.x || a.y != a.y || infinite && sign == 0:
		m.none = true
	case infinite && sign > 0:
		m.plus = true
	case infinite:
		m.minus = true
	default:
		m.num.Add(m.num, new(big.Int).Mul(scaled(a.x, half), scaled(a.y, half)))
	}
}

func (m *model) merge(o *model) {
	m.num.Add(m.num, o.num)
	m.terms.Add(m.terms, o.terms)
	m.plus, m.minus, m.none = m.plus || o.plus, m.minus || o.minus, m.none || o.none
}

func (m *model) neg() {
	m.num.Neg(m.num)
	m.plus, m.minus = m.minus, m.plus
}

func (m *model) state() int {
	limit := new(big.Int).Lsh(big.NewInt(1), 62)
	switch {
	case m.none || m.plus && m.minus || m.terms.Cmp(limit) > 0:
		return 2
	case m.plus:
		return 1
	case m.minus:
		return -1
	}
	return 0
}

func (m *model) sign() int {
	switch m.state() {
	case 0:
		return m.num.Sign()
	case 2:
		return 0
	}
	return m.state()
}

func (m *model) round(d int) float64 { return m.over(d, 1) }

func (m *model) over(d, n int) float64 {
	switch {
	case n < 1 || m.state() == 2:
		return nan
	case m.state() == 0:
		return rounded(d, part(m.num, int64(n), unit))
	}
	return inf * float64(m.state())
}

func (m *model) root(d int) float64 {
	switch {
	case m.state() == 1:
		return inf
	case m.state() == 0 && m.num.Sign() >= 0:
		return rooted(d, m.num)
	}
	return nan
}

// check holds all that s tells against what m tells, for each n of Over.
func check(t *testing.T, what string, s *total.Sum, m *model, ns ...int) {
	t.Helper()
	if s.State() != m.state() || s.Sign() != m.sign() {
		t.Errorf("%s: State %d, Sign %d; want %d, %d", what, s.State(), s.Sign(), m.state(), m.sign())
	}
	for _, d := range directions {
		is(t, s.Round(d), m.round(d), "%s: Round(%d)", what, d)
		is(t, s.Root(d), m.root(d), "%s: Root(%d)", what, d)
		for _, n := range ns {
			is(t, s.Over(d, n), m.over(d, n), "%s: Over(%d, %d)", what, d, n)
		}
	}
}

// checkQuick holds what s tells against what m tells in the three directions, without roots.
func checkQuick(t *testing.T, what any, s *total.Sum, m *model) {
	t.Helper()
	if s.State() != m.state() || s.Sign() != m.sign() {
		t.Errorf("%v: State %d, Sign %d; want %d, %d", what, s.State(), s.Sign(), m.state(), m.sign())
	}
	for _, d := range directions[:3] {
		is(t, s.Round(d), m.round(d), "%v: Round(%d)", what, d)
	}
}

// exactly tells whether s's number is m's, bit for bit: m's bits are taken off, 53 at a time, the
// highest as many lesser ones, for which there are products. m's number is below 2^2054.
func exactly(s *total.Sum, m *model) bool {
	left := *s
	num, all := new(big.Int).Abs(m.num), big.NewInt(1<<53-1)
	for at := 0; num.Sign() != 0; at += 53 {
		bits := float64(new(big.Int).And(num, all).Uint64())
		lower, times := 0, 1
		if at >= 4187 {
			lower, times = 10, 1<<10
		}
		one := min(at, half+1023)
		for range times {
			left.Mul(ldexp(bits, at-lower-one-half), ldexp(-float64(m.num.Sign()), one-half))
		}
		num.Rsh(num, 53)
	}
	return left.State() == 0 && left.Sign() == 0
}

func ldexp(x float64, exp int) float64 { return math.Ldexp(x, exp) }

// dice are numbers that look like chance, the same at every run.
type dice uint64

func (d *dice) next() uint64 {
	*d ^= *d << 13
	*d ^= *d >> 7
	*d ^= *d << 17
	return uint64(*d) * 0x2545f4914f6cdd1d
}

func (d *dice) below(n int) int { return int(d.next() >> 1 % uint64(n)) }

// number tells numbers of all magnitudes and both signs, of some magnitudes more often, with many
// bits or few.
func (d *dice) number() float64 {
	sig := d.next()>>11 | 1<<52
	if d.below(2) == 0 {
		sig = 1<<52 | 1<<d.below(52) | 1<<d.below(52)
	}
	exp := [...]int{-1130 + d.below(130), 900 + d.below(71), -1074 + d.below(2046), -60 + d.below(20)}[d.below(4)]
	x := math.Ldexp(float64(sig), exp)
	if d.below(2) == 0 {
		return -x
	}
	return x
}

func (d *dice) term() term {
	if d.below(2) == 0 {
		return number(d.number())
	}
	return product(d.number(), d.number())
}

func (d *dice) terms(n int) []term {
	var l []term
	for range n {
		l = append(l, d.term())
	}
	return l
}

// edges are the numbers at which something changes, and their neighbours.
func edges() []float64 {
	out := []float64{0, minus}
	for _, x := range []float64{
		least, 0x1p-1073, 0x1p-1050, 0x1p-1023, 0x1p-1022, 0x1p-1021, 0x1p-538, 0x1p-537, e / 2, e, 0.1, 0.5, 1, 1.5, 3,
		0x1p32, 0x1p53, 0x1p64, 0x1p512, 0x1p970, 0x1p971, 0x1p1023, greatest,
	} {
		for _, y := range []float64{math.Nextafter(x, -inf), x, math.Nextafter(x, inf)} {
			if y != 0 && y <= greatest {
				out = append(out, y, -y)
			}
		}
	}
	return out
}

// few of the edges, for what is asked of three at a time.
func few() []float64 {
	return []float64{0, minus, least, -least, 0x1p-1022, -0x1.fffffffffffffp-1022, 0x1p-538, -1, 1 + e, 1 - e/2, -1.5, 3, 0.1,
		e / 2, -0x1.8p-53, 0x1p53, 0x1p512, 0x1.fffffffffffffp511, 0x1p970, -0x1p1000, greatest, -greatest}
}
