package lit_test

import (
	"math"
	"strings"
	"testing"

	"verge/api"
	"verge/lit"
)

// What the tests hand in, and how they hold an answer against what the chapter asks for.

// asExpected holds both readers against the chapter.
func asExpected(t *testing.T, s string) {
	t.Helper()
	want := expect(s, false)
	if want.e != api.OK {
		want.x.X = api.Interval{}
	}
	if x, at, e := lit.Read(s); !same(x, want.x.X) || at != want.at || e != want.e {
		t.Errorf("Read(%.90q) = %x, %d, %d; want %x, %d, %d", s, x, at, e, want.x.X, want.at, want.e)
	}
	asExpectedDeco(t, s)
}

func asExpectedDeco(t *testing.T, s string) {
	t.Helper()
	want := expect(s, true)
	if x, at, e := lit.ReadDeco(s); !same(x.X, want.x.X) || x.D != want.x.D || at != want.at || e != want.e {
		t.Errorf("ReadDeco(%.90q) = %x, %d, %d; want %x, %d, %d", s, x, at, e, want.x, want.at, want.e)
	}
}

// each: of several texts.
func each(t *testing.T, texts ...string) {
	t.Helper()
	for _, s := range texts {
		asExpected(t, s)
	}
}

// The calls by hand.

func reads(t *testing.T, s string, want api.Interval) {
	t.Helper()
	if x, at, e := lit.Read(s); !same(x, want) || at != 0 || e != api.OK {
		t.Errorf("Read(%.60q) = %x, %d, %d; want %x", s, x, at, e, want)
	}
}

func readsDeco(t *testing.T, s string, want api.Deco) {
	t.Helper()
	if x, at, e := lit.ReadDeco(s); !same(x.X, want.X) || x.D != want.D || at != 0 || e != api.OK {
		t.Errorf("ReadDeco(%.60q) = %x, %d, %d; want %x", s, x, at, e, want)
	}
}

func refused(t *testing.T, s string, at int, e api.Errno) {
	t.Helper()
	if x, place, err := lit.Read(s); !same(x, api.Interval{}) || place != at || err != e {
		t.Errorf("Read(%.60q) = %x, %d, %d; want the place %d, %d", s, x, place, err, at, e)
	}
}

func refusedDeco(t *testing.T, s string, at int, e api.Errno) {
	t.Helper()
	if x, place, err := lit.ReadDeco(s); !same(x.X, api.Interval{}) || x.D != 0 || place != at || err != e {
		t.Errorf("ReadDeco(%.60q) = %x, %d, %d; want the place %d, %d", s, x, place, err, at, e)
	}
}

// every goes through all texts of n bytes of an alphabet.
func every(n int, alphabet string, f func(string)) {
	if n == 0 {
		f("")
		return
	}
	every(n-1, alphabet, func(s string) {
		for i := range len(alphabet) {
			f(s + alphabet[i:i+1])
		}
	})
}

// dice are numbers that look like chance, the same at every run.
type dice uint64

func (d *dice) next() uint64 {
	*d += 0x9e3779b97f4a7c15
	z := uint64(*d)
	z = (z ^ z>>30) * 0xbf58476d1ce4e5b9
	z = (z ^ z>>27) * 0x94d049bb133111eb
	return z ^ z>>31
}

func (d *dice) below(n int) int { return int(d.next() >> 1 % uint64(n)) }

func pick[T any](d *dice, l ...T) T { return l[d.below(len(l))] }

// run tells up to n digits of a set, and some noughts ahead.
func (d *dice) run(n int, set string) string {
	var b strings.Builder
	b.WriteString(strings.Repeat("0", max(d.below(6)-3, 0)))
	for range d.below(n) + 1 {
		b.WriteByte(set[d.below(len(set))])
	}
	return b.String()
}

// pointed tells digits with a point at any place, or none.
func (d *dice) pointed(digits string) string {
	if d.below(3) == 0 {
		return digits
	}
	at := d.below(len(digits) + 1)
	return digits[:at] + "." + digits[at:]
}

const decimalSet, hexSet = "0123456789", "0123456789abcdefABCDEF"

// numeral tells a numeral of up to some n digits.
func (d *dice) numeral(n int) string {
	sign := pick(d, "", "", "+", "-")
	exponent := pick(d, "", "+", "-", "-00") + d.run(3, decimalSet)
	switch d.below(5) {
	case 0:
		return sign + pick(d, "0x", "0X") + d.pointed(d.run(n, hexSet)) + pick(d, "p", "P") + exponent
	case 1:
		return sign + d.run(n, decimalSet) + "/" + d.run(n, decimalSet)
	case 2:
		return sign + d.pointed(d.run(n, decimalSet)) + pick(d, "e", "E") + exponent
	}
	return sign + d.pointed(d.run(n, decimalSet))
}

// blanks tells some blanks, or none.
func (d *dice) blanks() string {
	out := ""
	for range max(d.below(6)-3, 0) {
		out += pick(d, " ", "\t", "\n", "\r")
	}
	return out
}

// uncertain tells a literal without brackets.
func (d *dice) uncertain(n int) string {
	s := pick(d, "", "", "+", "-") + d.pointed(d.run(n, decimalSet)) + "?"
	s += pick(d, "", "", "?", d.run(n, decimalSet), d.run(2, decimalSet)) + pick(d, "", "", "u", "d")
	return s + pick(d, "", "", "e"+pick(d, "", "+", "-")+d.run(3, decimalSet))
}

// bare tells a bare literal; its bounds are the wrong way round about as often as not.
func (d *dice) bare(n int) string {
	one := pick(d, "", "empty", "entire", d.numeral(n))
	low, high := pick(d, "", "-inf", "-infinity", d.numeral(n), d.numeral(n), d.numeral(n)), pick(d, "", "inf", "+inf", "infinity", "+infinity", d.numeral(n), d.numeral(n), d.numeral(n))
	switch d.below(3) {
	case 0:
		return d.uncertain(n)
	case 1:
		return "[" + d.blanks() + one + d.blanks() + "]"
	}
	return "[" + d.blanks() + low + d.blanks() + "," + d.blanks() + high + d.blanks() + "]"
}

// decorated tells a decorated literal, which may be bare.
func (d *dice) decorated(n int) string {
	if d.below(40) == 0 {
		return "[" + d.blanks() + "nai" + d.blanks() + "]"
	}
	return d.bare(n) + pick(d, "", "", "_com", "_dac", "_def", "_trv")
}

// letters changes capital and small letters about.
func (d *dice) letters(s string) string {
	b := []byte(s)
	for i, c := range b {
		if lower := c | 0x20; lower >= 'a' && lower <= 'z' && d.below(2) == 0 {
			b[i] = c ^ 0x20
		}
	}
	return string(b)
}

// spoilt tells a text with one byte more, less, or another.
func (d *dice) spoilt(s string) string {
	at := d.below(len(s) + 1)
	b := string([]byte{pick(d, []byte("0019.+-eExXpP/aFiInN?udUD[], _\t\n;\x00\xff\xc3\x0b")...)})
	rest := s[at:]
	if rest != "" && d.below(2) == 0 {
		rest = rest[1:]
		if d.below(3) == 0 {
			b = ""
		}
	}
	return s[:at] + b + rest
}

// bytesOf tells any bytes.
func (d *dice) bytesOf(n int) string {
	b := make([]byte, d.below(n+1))
	for i := range b {
		b[i] = byte(d.next())
	}
	return string(b)
}

// number tells numbers of all magnitudes and of either sign, some with few digits.
func (d *dice) number() float64 {
	x := math.Float64frombits(d.next())
	switch d.below(5) {
	case 0:
		x = float64(d.next()>>40) * math.Pow10(d.below(20)-12)
	case 1:
		x = math.Ldexp(float64(d.next()>>d.below(60)), d.below(80)-60)
	case 2:
		x = math.Float64frombits(d.next() >> (12 + d.below(50)))
	}
	if math.IsNaN(x) || math.IsInf(x, 0) {
		return d.number()
	}
	if d.below(2) == 0 {
		return -x
	}
	return x
}

// edges are the ends that the document names, wrong ones too, and NaNs of all kinds.
func edges() []float64 {
	out := []float64{-inf, -greatest, -3, -1.5, -0.1, -0x1p-1022, -least, signed, 0, least, 0x1p-1022, 0.1, 1, above(1), 2, 1e22, 1e23, below(greatest), greatest, inf, nan}
	for _, bits := range []uint64{0x7ff0000000000001, 0x7fffffffffffffff, 0xfff0000000000001, 0xfff8000000000000, 0xffffffffffffffff} {
		out = append(out, math.Float64frombits(bits))
	}
	return out
}

// end tells numbers, and edges.
func (d *dice) end() float64 {
	if d.below(3) == 0 {
		return pick(d, edges()...)
	}
	return d.number()
}

// interval tells any interval, in the wrong order too, and any bits.
func (d *dice) interval() api.Interval {
	x, y := d.end(), d.end()
	switch d.below(8) {
	case 0:
		return iv(x, x)
	case 1:
		return iv(x, above(x))
	case 2:
		return iv(math.Float64frombits(d.next()), math.Float64frombits(d.next()))
	case 3:
		return iv(x, y)
	}
	return iv(min(x, y), max(x, y))
}

// eachInterval goes through all pairs of edges, and n by chance.
func eachInterval(n int, seed dice, f func(x api.Interval)) {
	f(empty)
	for _, lo := range edges() {
		for _, hi := range edges() {
			f(iv(lo, hi))
		}
	}
	for range n {
		f(seed.interval())
	}
}

// ranks are numbers of decorations, and of none.
func ranks() []int {
	return []int{api.Com, api.Dac, api.Def, api.Trv, api.Ill, math.MinInt, -16, -4, -1, 1, 2, 3, 5, 7, 9, 11, 13, 15, 17, 20, 32, 256 + 16, 1<<16 + 4, math.MaxInt}
}
