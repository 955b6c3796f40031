package digits_test

import (
	"math"
	"math/big"
	"regexp"
	"sort"
	"strings"
	"testing"

	"verge/api"
)

// What the tests measure by: the chapter's words, by regular expressions and on math/big.

const (
	greatest = math.MaxFloat64
	least    = math.SmallestNonzeroFloat64
	maxInt   = math.MaxInt
	minInt   = math.MinInt
)

var (
	inf   = math.Inf(1)
	nan   = math.NaN()
	minus = math.Copysign(0, -1)
)

// directions: the three, and some that are none of them.
var directions = []int{api.Down, api.Near, api.Up, 2, -2, maxInt, minInt}

func same(x, y float64) bool { return math.Float64bits(x) == math.Float64bits(y) }

// The numerals. The exponent's and the second number's digits are groups of their own, since their
// places are told.
var (
	decimalForm = regexp.MustCompile(`\A([+-]?)([0-9]+\.?[0-9]*|\.[0-9]+)(?:[eE]([+-]?)([0-9]+))?\z`)
	hexForm     = regexp.MustCompile(`\A([+-]?)0[xX]([0-9a-fA-F]+\.?[0-9a-fA-F]*|\.[0-9a-fA-F]+)[pP]([+-]?)([0-9]+)\z`)
	ratioForm   = regexp.MustCompile(`\A([+-]?)([0-9]+)/([0-9]+)\z`)
)

func isNumeral(s string) bool {
	return decimalForm.MatchString(s) || hexForm.MatchString(s) || ratioForm.MatchString(s)
}

// begins: whatever begins a numeral is one with one of four ends behind it.
func begins(s string) bool {
	for _, end := range []string{"", "0", "p0", "0p0"} {
		if isNumeral(s + end) {
			return true
		}
	}
	return false
}

// stop tells how long the longest beginning of s is that begins a numeral. (Then all shorter ones do.)
func stop(s string) int {
	return sort.Search(len(s), func(n int) bool { return !begins(s[:n+1]) })
}

func integer(s string, base int) *big.Int {
	v, ok := new(big.Int).SetString(s, base)
	if !ok {
		panic("no digits: " + s)
	}
	return v
}

// power tells base to the n.
func power(base, n int) *big.Rat {
	p := new(big.Int).Exp(big.NewInt(int64(base)), big.NewInt(int64(max(n, -n))), nil)
	if n < 0 {
		return new(big.Rat).SetFrac(big.NewInt(1), p)
	}
	return new(big.Rat).SetInt(p)
}

// expected is what P5.1 asks of a text: what it says, or an error and its place.
type expected struct {
	says *big.Rat
	at   int
	e    api.Errno
}

func expect(s string) expected {
	if len(s) > api.MaxText {
		return expected{at: api.MaxText, e: api.ErrLong}
	}
	if m := decimalForm.FindStringSubmatchIndex(s); m != nil {
		return scaled(s, m, 10, 10, 1)
	}
	if m := hexForm.FindStringSubmatchIndex(s); m != nil {
		return scaled(s, m, 16, 2, 4)
	}
	m := ratioForm.FindStringSubmatchIndex(s)
	if m == nil {
		return expected{at: stop(s), e: api.ErrDigits}
	}
	num, den := integer(s[m[4]:m[5]], 10), integer(s[m[6]:m[7]], 10)
	if den.Sign() == 0 {
		return expected{at: m[6], e: api.ErrDigits}
	}
	return expected{says: turned(s[m[2]:m[3]], new(big.Rat).SetFrac(num, den))}
}

// scaled goes by the groups of decimal and hexadecimal numerals: digits of a base, an exponent of
// another, so many of which a digit behind the point counts for.
func scaled(s string, m []int, base, scale, each int) expected {
	exp := new(big.Int)
	if m[8] >= 0 {
		exp = integer(s[m[6]:m[9]], 10)
		if exp.CmpAbs(big.NewInt(api.MaxExp)) > 0 {
			return expected{at: m[8], e: api.ErrExp}
		}
	}
	ahead, behind, _ := strings.Cut(s[m[4]:m[5]], ".")
	whole := new(big.Rat).SetInt(integer(ahead+behind, base))
	return expected{says: turned(s[m[2]:m[3]], whole.Mul(whole, power(scale, int(exp.Int64())-each*len(behind))))}
}

func turned(sign string, r *big.Rat) *big.Rat {
	if sign == "-" {
		r.Neg(r)
	}
	return r
}

// says tells what a numeral says.
func says(t *testing.T, s string) *big.Rat {
	t.Helper()
	want := expect(s)
	if want.e != api.OK {
		t.Fatalf("%q is no numeral", s)
	}
	return want.says
}

func isAbove(x float64, r *big.Rat) bool {
	if math.IsInf(x, 0) {
		return x > 0
	}
	return real(x).Cmp(r) > 0
}

func isBelow(x float64, r *big.Rat) bool { return isAbove(-x, new(big.Rat).Neg(r)) }

func real(x float64) *big.Rat { return new(big.Rat).SetFloat64(x) }

// rounded is what chapter 3's words 'to round' ask of a real.
func rounded(d int, r *big.Rat) float64 {
	x, _ := r.Float64()
	switch {
	case d == api.Down && isAbove(x, r):
		x = math.Nextafter(x, -inf)
	case d == api.Up && isBelow(x, r):
		x = math.Nextafter(x, inf)
	}
	return x + 0 // no -0
}

// form is the number whole times 10^ten, of n digits, the first not 0.
type form struct {
	whole *big.Int
	ten   int
}

func (f form) value() *big.Rat {
	return new(big.Rat).Mul(new(big.Rat).SetInt(f.whole), power(10, f.ten))
}

func (f form) even() bool { return f.whole.Bit(0) == 0 }

// text is the chapter's scientific form.
func (f form) text() string {
	digits := new(big.Int).Abs(f.whole).String()
	s := digits[:1]
	if len(digits) > 1 {
		s += "." + digits[1:]
	}
	if f.whole.Sign() < 0 {
		s = "-" + s
	}
	return s + "e" + big.NewInt(int64(len(digits)-1+f.ten)).String()
}

// around tells the forms of n digits just not above and just not below x, which is not 0.
func around(x float64, n int) (down, up form) {
	r := real(math.Abs(x))
	ten := int(math.Floor(math.Log10(math.Abs(x)))) - n + 1
	low, high := power(10, n-1), power(10, n)
	units := new(big.Rat).Mul(r, power(10, -ten))
	for ; units.Cmp(high) >= 0; ten++ {
		units.Mul(units, power(10, -1))
	}
	for ; units.Cmp(low) < 0; ten-- {
		units.Mul(units, power(10, 1))
	}
	whole, rest := new(big.Int).QuoRem(units.Num(), units.Denom(), new(big.Int))
	down, up = form{whole, ten}, form{whole, ten}
	if rest.Sign() != 0 {
		up.whole = new(big.Int).Add(whole, big.NewInt(1))
		if up.whole.Cmp(high.Num()) == 0 {
			up = form{low.Num(), ten + 1}
		}
	}
	if x < 0 {
		down, up = form{new(big.Int).Neg(up.whole), up.ten}, form{new(big.Int).Neg(down.whole), down.ten}
	}
	return down, up
}

// nearer tells which of the two forms around x is nearest to it, of two as near the even one. (Of 9 and
// 1e1, of one digit, neither is: what is odd is left then.)
func nearer(x float64, down, up form) form {
	below, above := new(big.Rat).Sub(real(x), down.value()), new(big.Rat).Sub(up.value(), real(x))
	c := below.Cmp(above)
	switch {
	case c < 0 || c == 0 && down.even():
		return down
	case c > 0 || up.even():
		return up
	case x < 0:
		return down
	}
	return up
}

// inDirections are three answers, of which each direction has one.
type inDirections struct{ down, near, up string }

func (a inDirections) of(d int) string {
	switch d {
	case api.Down:
		return a.down
	case api.Up:
		return a.up
	}
	return a.near
}

// printed is what P5.3 asks for.
func printed(x float64, n int) inDirections {
	if x == 0 {
		s := strings.TrimSuffix("0."+strings.Repeat("0", n-1), ".") + "e0"
		return inDirections{s, s, s}
	}
	down, up := around(x, n)
	return inDirections{down.text(), nearer(x, down, up).text(), up.text()}
}

// exactForm is what P5.4 asks for: x is a whole number of 10^-1074, since it is one of 2^-1074.
func exactForm(x float64) string {
	if x == 0 {
		return "0e0"
	}
	r := real(x)
	whole := r.Mul(r, power(10, 1074)).Num().String()
	short := strings.TrimRight(whole, "0")
	return form{integer(short, 10), len(whole) - len(short) - 1074}.text()
}

// shortForm is what P5.6 asks for.
func shortForm(x float64) string {
	if x == 0 {
		return "0e0"
	}
	for n := 1; ; n++ {
		down, up := around(x, n)
		below, above := rounded(api.Near, down.value()) == x, rounded(api.Near, up.value()) == x
		switch {
		case below && above:
			return nearer(x, down, up).text()
		case below:
			return down.text()
		case above:
			return up.text()
		}
	}
}

// dice are numbers that look like chance, the same at every run.
type dice uint64

func (d *dice) next() uint64 {
	*d += 0x9e3779b97f4a7c15
	z := uint64(*d)
	z = (z ^ z>>30) * 0xbf58476d1ce4e5b9
	z = (z ^ z>>27) * 0x94d049bb133111eb
	return z ^ z>>31
}

func (d *dice) below(n int) int { return int(d.next() >> 1 % uint64(n)) }

func pick[T any](d *dice, l ...T) T { return l[d.below(len(l))] }

// number tells numbers of all magnitudes and of either sign, some with few digits.
func (d *dice) number() float64 {
	x := math.Float64frombits(d.next())
	switch d.below(5) {
	case 0:
		x = float64(d.next()>>40) * math.Pow10(d.below(20)-12)
	case 1:
		x = math.Ldexp(float64(d.next()>>d.below(60)), d.below(80)-60)
	case 2:
		x = math.Float64frombits(d.next() >> (12 + d.below(50)))
	}
	if math.IsNaN(x) || math.IsInf(x, 0) {
		return d.number()
	}
	if d.below(2) == 0 {
		return -x
	}
	return x
}

// run tells up to n digits of a set, and some noughts ahead or behind.
func (d *dice) run(n int, set string) string {
	var b strings.Builder
	b.WriteString(strings.Repeat("0", max(d.below(6)-3, 0)))
	for range d.below(n) + 1 {
		b.WriteByte(set[d.below(len(set))])
	}
	b.WriteString(strings.Repeat("0", max(d.below(6)-3, 0)))
	return b.String()
}

// pointed tells digits with a point at any place, or none.
func (d *dice) pointed(digits string) string {
	if d.below(3) == 0 {
		return digits
	}
	at := d.below(len(digits) + 1)
	return digits[:at] + "." + digits[at:]
}

const decimalSet, hexSet = "0123456789", "0123456789abcdefABCDEF"

// numeral tells a numeral of up to some n digits.
func (d *dice) numeral(n int) string {
	sign := pick(d, "", "", "+", "-")
	exponent := pick(d, "", "+", "-", "-00") + d.run(3, decimalSet)
	switch d.below(4) {
	case 0:
		return sign + pick(d, "0x", "0X") + d.pointed(d.run(n, hexSet)) + pick(d, "p", "P") + exponent
	case 1:
		return sign + d.run(n, decimalSet) + "/" + d.run(n, decimalSet)
	case 2:
		return sign + d.pointed(d.run(n, decimalSet))
	}
	return sign + d.pointed(d.run(n, decimalSet)) + pick(d, "e", "E") + exponent
}

// spoilt tells a text with one byte more, less, or another.
func (d *dice) spoilt(s string) string {
	at := d.below(len(s) + 1)
	b := string([]byte{pick(d, []byte("0019.+-eExXpP/aF _\n,\x00\xff\xc3")...)})
	rest := s[at:]
	if rest != "" && d.below(2) == 0 {
		rest = rest[1:]
		if d.below(3) == 0 {
			b = ""
		}
	}
	return s[:at] + b + rest
}

// numbers are those at which something changes, and their neighbours.
func numbers() []float64 {
	out := []float64{0, minus}
	add := func(x float64) {
		for _, y := range []float64{math.Nextafter(x, 0), x, math.Nextafter(x, inf)} {
			if y <= greatest {
				out = append(out, y, -y)
			}
		}
	}
	for _, x := range []float64{least, 3 * least, 0x1p-1022, 0.1, 0.2, 0.25, 0.3, 1.0 / 3, 0.75, 1.5, 2.5, 3.5, 9.5, 95, 950, 99.5, 999.5, 0.995, 5e15, 0x1p50 + 0.25, 0x1p50 + 0.75, 0x1p49 + 0.25, 9007199254740993, greatest / 2, greatest} {
		add(x)
	}
	for n := -320; n <= 308; n += 4 {
		add(math.Pow10(n))
	}
	for n := -1074; n < 1024; n += 11 {
		add(math.Ldexp(1, n))
	}
	return out
}
