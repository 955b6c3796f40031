package lit_test

import (
	"math"
	"math/big"
	"strconv"
	"strings"
	"sync"
	"testing"

	"verge/api"
	"verge/digits"
	"verge/lit"
)

// P12.7

func TestReadBack(t *testing.T) {
	d := dice(12030)
	eachInterval(4000, 12031, func(x api.Interval) {
		reads(t, lit.Exact(x), asRead(x))
		for range 3 {
			y := api.Deco{X: x, D: pick(&d, ranks()...)}
			readsDeco(t, lit.ExactDeco(y), asReadDeco(y))
		}
	})
}

// taken reads what must be a literal.
func taken(t *testing.T, s string) api.Interval {
	t.Helper()
	x, at, e := lit.Read(s)
	if e != api.OK {
		t.Fatalf("Read(%.60q): %d at %d", s, e, at)
	}
	return x
}

func holds(x, y api.Interval) bool { return y == empty || x.Lo <= y.Lo && x.Hi >= y.Hi }

// digitsOf counts the digits of an end's exact text.
func digitsOf(x float64) int {
	s, e := digits.Exact(x)
	if e != api.OK {
		return 0
	}
	head, _, _ := strings.Cut(strings.TrimPrefix(s, "-"), "e")
	return len(strings.Replace(head, ".", "", 1))
}

func TestPrintHolds(t *testing.T) {
	eachInterval(800, 12032, func(x api.Interval) {
		y := asRead(x)
		enough := max(digitsOf(y.Lo), digitsOf(y.Hi), 1)
		for _, n := range []int{1, 2, 3, 4, 9, 16, 17, 18, enough - 1, enough, enough + 1, 1099, 1100} {
			if n < 1 {
				continue
			}
			s, e := lit.Print(x, n)
			if e != api.OK {
				t.Fatalf("Print(%x, %d): %d", x, n, e)
			}
			got := taken(t, s)
			if !holds(got, y) || n >= enough && got != y {
				t.Errorf("%x in %d digits, %s: %x", x, n, s, got)
			}
			if n < 1100 {
				s, _ := lit.Print(x, n+1)
				if next := taken(t, s); !holds(got, next) {
					t.Errorf("%x in %d digits: %x, in one more %x", x, n, got, next)
				}
			}
			deco, e := lit.PrintDeco(api.Deco{X: y, D: api.Trv}, n)
			if e != api.OK || deco != s+"_trv" {
				t.Errorf("%x in %d digits: %s, decorated %s", x, n, s, deco)
			}
		}
	})
}

// spaced tells a literal with more blanks where they may stand.
func (d *dice) spaced(s string) string {
	var b strings.Builder
	for i := range len(s) {
		if s[i] == ',' || s[i] == ']' {
			b.WriteString(d.blanks())
		}
		b.WriteByte(s[i])
		if s[i] == ',' || s[i] == '[' {
			b.WriteString(d.blanks())
		}
	}
	return b.String()
}

// Blanks and the letters' size change no answer but places.
func TestBlanksAndLetters(t *testing.T) {
	d := dice(12033)
	for range 20000 {
		s := d.decorated(pick(&d, 1, 5))
		other := d.spaced(d.letters(s))
		x, _, e := lit.Read(s)
		if y, _, err := lit.Read(other); !same(x, y) || err != e {
			t.Errorf("Read(%q) = %x, %d, of %q %x, %d", s, x, e, other, y, err)
		}
		dx, _, e := lit.ReadDeco(s)
		if dy, _, err := lit.ReadDeco(other); !same(dx.X, dy.X) || dx.D != dy.D || err != e {
			t.Errorf("ReadDeco(%q) = %x, %d, of %q %x, %d", s, dx, e, other, dy, err)
		}
	}
}

// A place moves by as many blanks as are put ahead of it, and by no letter's size.
func TestPlacesMove(t *testing.T) {
	d := dice(12034)
	for range 20000 {
		s := d.spoilt(d.decorated(3))
		_, at, e := lit.ReadDeco(s)
		if e == api.OK {
			continue
		}
		if _, place, err := lit.ReadDeco(d.letters(s)); place != at || err != e {
			t.Errorf("%q: %d at %d, in other letters %d at %d", s, e, at, err, place)
		}
		if strings.HasPrefix(s, "[") && at > 0 {
			if _, place, err := lit.ReadDeco("[ \t" + s[1:]); place != at+2 || err != e {
				t.Errorf("%q: %d at %d, with two blanks %d at %d", s, e, at, err, place)
			}
		}
	}
}

// brackets tells an uncertain literal's two bounds, written out.
func brackets(sign, whole, behind, radius, direction string, exp int) string {
	if radius == "" {
		behind, radius = behind+"0", "5"
	}
	m, r := integer(sign+whole+behind, 10), new(big.Int)
	if radius != "?" {
		r = integer(radius, 10)
	}
	e := "e" + strconv.Itoa(exp-len(behind))
	low, high := new(big.Int).Sub(m, r).String()+e, new(big.Int).Add(m, r).String()+e
	if radius == "?" {
		low, high = "-inf", "inf"
	}
	switch direction {
	case "u":
		low = m.String() + e
	case "d":
		high = m.String() + e
	}
	return "[" + low + ", " + high + "]"
}

func TestUncertainWrittenOut(t *testing.T) {
	d := dice(12035)
	for range 20000 {
		n := pick(&d, 1, 3, 20, 100)
		sign, whole, behind := pick(&d, "", "+", "-"), d.run(n, decimalSet), d.run(n, decimalSet)
		point := "."
		switch d.below(4) {
		case 0:
			whole = ""
		case 1:
			behind = ""
		case 2:
			behind, point = "", ""
		}
		radius, direction := pick(&d, "", "?", d.run(1, decimalSet), d.run(2*n, decimalSet)), pick(&d, "", "u", "d")
		exp := d.below(700) - 400
		short := sign + whole + point + behind + "?" + radius + direction + "e" + strconv.Itoa(exp)
		long := brackets(sign, whole, behind, radius, direction, exp)
		reads(t, short, taken(t, long))
		x, _, e := lit.ReadDeco(long + "_com")
		if y, _, err := lit.ReadDeco(short + "_com"); x != y || e != err {
			t.Errorf("ReadDeco(%q_com) = %x, %d, of %q %x, %d", short, y, err, long, x, e)
		}
	}
}

// P12.8, R4

// answers are what all calls say of some arguments.
type answers struct {
	x       [4]uint64
	d       int
	at      [2]int
	e       [4]api.Errno
	printed [2]string
	exact   [2]string
}

func ask(s string, x api.Deco, n int) (a answers) {
	var y api.Interval
	var z api.Deco
	y, a.at[0], a.e[0] = lit.Read(s)
	z, a.at[1], a.e[1] = lit.ReadDeco(s)
	a.x, a.d = [4]uint64{math.Float64bits(y.Lo), math.Float64bits(y.Hi), math.Float64bits(z.X.Lo), math.Float64bits(z.X.Hi)}, z.D
	a.printed[0], a.e[2] = lit.Print(x.X, n)
	a.printed[1], a.e[3] = lit.PrintDeco(x, n)
	a.exact[0], a.exact[1] = lit.Exact(x.X), lit.ExactDeco(x)
	return a
}

// chance makes arguments of all kinds and asks.
func (d *dice) chance() answers {
	s := pick(d, d.bytesOf(9), "["+d.bytesOf(9), d.decorated(12), d.spoilt(d.decorated(12)), d.spoilt(d.spoilt(d.decorated(12))))
	x := api.Deco{X: d.interval(), D: pick(d, append(ranks(), int(d.next()))...)}
	return ask(s, x, pick(d, d.below(30), d.below(1200)-50, int(d.next())))
}

// Answers hang on the arguments alone: asked again, in another order, by several at a time.
func TestSameAgain(t *testing.T) {
	first := make([]answers, 3000)
	for i := range first {
		d := dice(i)
		first[i] = d.chance()
	}
	var all sync.WaitGroup
	for k := range 8 {
		all.Go(func() {
			for i := range first {
				at := (i*(2*k+1) + 97*k) % len(first)
				d := dice(at)
				if again := d.chance(); again != first[at] {
					t.Errorf("number %d: %v, then %v", at, first[at], again)
				}
			}
		})
	}
	all.Wait()
}

// Whatever is read is valid, and a refusal says nothing else.
func TestWhateverIsRead(t *testing.T) {
	d := dice(12036)
	for range 50000 {
		s := pick(&d, d.bytesOf(12), "["+d.bytesOf(5)+"]", d.decorated(9), d.spoilt(d.decorated(9)))
		x, at, e := lit.Read(s)
		if e == api.OK && (!same(x, asRead(x)) || at != 0) || e != api.OK && (!same(x, api.Interval{}) || at < 0 || at > len(s)) {
			t.Errorf("Read(%q) = %x, %d, %d", s, x, at, e)
		}
		y, at, e := lit.ReadDeco(s)
		if e == api.OK && (y != asReadDeco(y) || !same(y.X, asRead(y.X)) || at != 0) || e != api.OK && (y != api.Deco{} || at < 0 || at > len(s)) {
			t.Errorf("ReadDeco(%q) = %x, %d, %d", s, y, at, e)
		}
	}
}

func TestEveryTextEnds(t *testing.T) {
	d := dice(12037)
	for _, n := range []int{0, 1, 5, 4095, 4096, 4097, 1 << 20} {
		for b := range 256 {
			run := strings.Repeat(string([]byte{byte(b)}), n)
			for _, s := range []string{run, "[" + run, "[1," + run, "1" + run, "1?" + run, "[1]_" + run} {
				ask(s, api.Deco{X: d.interval(), D: int(d.next())}, n)
				if n < 10 || n > 4096 {
					asExpected(t, s)
				}
			}
		}
	}
}
