package digits_test

import (
	"math"
	"slices"
	"strings"
	"sync"
	"testing"

	"verge/api"
	"verge/digits"
)

// P5.7

// The calls, with the refusal of one failing the test.

func number(t *testing.T, d int, s string) float64 {
	t.Helper()
	x, at, e := digits.Read(d, s)
	if e != api.OK {
		t.Fatalf("Read(%d, %.60q): %d at %d", d, s, e, at)
	}
	return x
}

func order(t *testing.T, a, b string) int {
	t.Helper()
	o, at, e := digits.Cmp(a, b)
	if e != api.OK {
		t.Fatalf("Cmp(%.60q, %.60q): %d at %d", a, b, e, at)
	}
	return o
}

func text(t *testing.T, s string, e api.Errno) string {
	t.Helper()
	if e != api.OK {
		t.Fatalf("refused: %d", e)
	}
	return s
}

func exact(t *testing.T, x float64) string {
	t.Helper()
	s, e := digits.Exact(x)
	return text(t, s, e)
}

func hex(t *testing.T, x float64) string {
	t.Helper()
	s, e := digits.Hex(x)
	return text(t, s, e)
}

func short(t *testing.T, x float64) string {
	t.Helper()
	s, e := digits.Short(x)
	return text(t, s, e)
}

func printing(t *testing.T, d int, x float64, n int) string {
	t.Helper()
	s, e := digits.Print(d, x, n)
	return text(t, s, e)
}

func TestReadBack(t *testing.T) {
	eachNumber(1000, 12, func(x float64) {
		plain := x + 0
		for _, d := range directions {
			read(t, d, exact(t, x), plain)
			read(t, d, hex(t, x), plain)
		}
		read(t, api.Near, short(t, x), plain)
		for _, n := range []int{17, 18, 25, 400, 1100} {
			read(t, api.Near, printing(t, api.Near, x, n), plain)
		}
	})
}

// digitsOf counts the digits of a scientific form.
func digitsOf(s string) int {
	head, _, _ := strings.Cut(strings.TrimPrefix(s, "-"), "e")
	return len(strings.Replace(head, ".", "", 1))
}

func TestPrintedOnEitherSide(t *testing.T) {
	eachNumber(100, 13, func(x float64) {
		all := exact(t, x)
		for _, n := range []int{1, 2, 9, 17, 53, 54, 1100} {
			down, near, up := printing(t, api.Down, x, n), printing(t, api.Near, x, n), printing(t, api.Up, x, n)
			if order(t, down, all) > 0 || order(t, up, all) < 0 || near != down && near != up {
				t.Errorf("%x in %d digits: %s, %s, %s", x, n, down, near, up)
			}
			if few := digitsOf(all) <= n; few != (down == up) || few != (order(t, down, all) == 0) || few != (order(t, up, all) == 0) {
				t.Errorf("%x in %d digits, of %s: %s, %s", x, n, all, down, up)
			}
			if digitsOf(down) != n || digitsOf(near) != n || digitsOf(up) != n {
				t.Errorf("%x: not %d digits: %s, %s, %s", x, n, down, near, up)
			}
		}
	})
}

// aside holds a number, which may be infinite, against what a numeral says.
func aside(t *testing.T, x float64, s string) int {
	t.Helper()
	if math.IsInf(x, 0) {
		return int(math.Copysign(1, x))
	}
	return order(t, exact(t, x), s)
}

// numerals are texts by chance, and some that lie close to one another.
func numerals(n int, seed dice) []string {
	l := []string{"0", "1e400", "-1e400", "1e-400", "-1e-400", "0x1p-1075", "1/3", "0.1", "0.5", "9007199254740993", "0x1.fffffffffffff8p1023", "1e9999", "-1e-9999"}
	for range n {
		s := seed.numeral(30)
		if want := expect(s); want.e == api.OK {
			l = append(l, s)
		}
		x := seed.number()
		for _, y := range []float64{x, math.Nextafter(x, 0)} {
			f, e := digits.Print(pick(&seed, api.Down, api.Near, api.Up), y, seed.below(30)+1)
			if e == api.OK {
				l = append(l, f)
			}
		}
	}
	return l
}

func TestReadOnEitherSide(t *testing.T) {
	for _, s := range numerals(2000, 14) {
		down, near, up := number(t, api.Down, s), number(t, api.Near, s), number(t, api.Up, s)
		if aside(t, down, s) > 0 || aside(t, up, s) < 0 || near != down && near != up {
			t.Errorf("%q: %x, %x, %x", s, down, near, up)
		}
		isOne := !math.IsInf(near, 0) && real(near).Cmp(says(t, s)) == 0
		if isOne != (down == up) || !isOne && math.Nextafter(down, inf) != up {
			t.Errorf("%q: %x, %x", s, down, up)
		}
	}
}

func TestCmpGoesWithRead(t *testing.T) {
	l := numerals(300, 15)
	d := dice(16)
	for i, a := range l {
		if order(t, a, a) != 0 {
			t.Errorf("Cmp of %q and itself", a)
		}
		for _, b := range []string{l[(i+1)%len(l)], pick(&d, l...), pick(&d, l...)} {
			o := order(t, a, b)
			if order(t, b, a) != -o {
				t.Errorf("Cmp(%q, %q) = %d, and the other way round", a, b, o)
			}
			for _, d := range directions {
				if x, y := number(t, d, a), number(t, d, b); o < 0 && x > y || o > 0 && x < y || o == 0 && x != y {
					t.Errorf("Cmp(%q, %q) = %d, but Read(%d, ..) %x, %x", a, b, o, d, x, y)
				}
			}
		}
	}
}

func TestCmpOrders(t *testing.T) {
	l := numerals(150, 17)
	slices.SortFunc(l, func(a, b string) int { return order(t, a, b) })
	for i := range len(l) - 1 {
		if says(t, l[i]).Cmp(says(t, l[i+1])) > 0 {
			t.Errorf("%q ahead of %q", l[i], l[i+1])
		}
	}
}

// A - ahead mirrors all.
func TestMirror(t *testing.T) {
	opposite := func(d int) int {
		if d == api.Down || d == api.Up {
			return -d
		}
		return d
	}
	l := numerals(300, 18)
	for i, s := range l {
		s = strings.TrimLeft(s, "+-")
		other := strings.TrimLeft(l[(i+7)%len(l)], "+-")
		for _, d := range directions {
			read(t, opposite(d), "-"+s, 0-number(t, d, s))
		}
		if order(t, "-"+s, "-"+other) != -order(t, s, other) {
			t.Errorf("Cmp of minus %q and minus %q", s, other)
		}
	}
	eachNumber(500, 19, func(x float64) {
		if x <= 0 {
			return
		}
		for _, call := range []func(*testing.T, float64) string{exact, hex, short} {
			if a, b := call(t, x), call(t, -x); b != "-"+a {
				t.Errorf("%x: %s, of minus that %s", x, a, b)
			}
		}
		for _, d := range directions {
			for _, n := range []int{1, 3, 17} {
				if a, b := printing(t, d, x, n), printing(t, opposite(d), -x, n); b != "-"+a {
					t.Errorf("%x in %d digits, %d: %s, of minus that %s", x, n, d, a, b)
				}
			}
		}
	})
}

// A - ahead of a text that is refused moves the place by one.
func TestMirrorOfRefusals(t *testing.T) {
	d := dice(20)
	for range 2000 {
		s := strings.TrimLeft(d.spoilt(d.numeral(5)), "+-")
		_, at, e := digits.Read(api.Near, s)
		if e == api.OK {
			continue
		}
		if x, place, err := digits.Read(api.Near, "-"+s); x != 0 || place != at+1 || err != e {
			t.Errorf("%q: %d at %d, with a - ahead %d at %d", s, e, at, err, place)
		}
	}
}

// P5.8

// answers are what all calls say of some arguments.
type answers struct {
	x        uint64
	at       int
	e        api.Errno
	order    int
	place    int
	err      api.Errno
	texts    [4]string
	refusals [4]api.Errno
}

func ask(d int, s, other string, x float64, n int) (a answers) {
	var y float64
	y, a.at, a.e = digits.Read(d, s)
	a.x = math.Float64bits(y)
	a.order, a.place, a.err = digits.Cmp(s, other)
	a.texts[0], a.refusals[0] = digits.Print(d, x, n)
	a.texts[1], a.refusals[1] = digits.Exact(x)
	a.texts[2], a.refusals[2] = digits.Hex(x)
	a.texts[3], a.refusals[3] = digits.Short(x)
	return a
}

// bytesOf tells any bytes.
func (d *dice) bytesOf(n int) string {
	b := make([]byte, d.below(n+1))
	for i := range b {
		b[i] = byte(d.next())
	}
	return string(b)
}

// chance makes arguments of all kinds and asks.
func (d *dice) chance() answers {
	s := pick(d, d.bytesOf(9), d.numeral(12), d.spoilt(d.numeral(12)), d.spoilt(d.spoilt(d.numeral(12))))
	other := pick(d, d.bytesOf(9), d.numeral(12), d.spoilt(d.numeral(12)))
	x := math.Float64frombits(d.next())
	n := pick(d, d.below(30), d.below(1200)-50, int(d.next()))
	return ask(pick(d, directions...), s, other, x, n)
}

// Answers hang on the arguments alone: asked again, in another order, by several at a time.
func TestSameAgain(t *testing.T) {
	first := make([]answers, 3000)
	for i := range first {
		d := dice(i)
		first[i] = d.chance()
	}
	var all sync.WaitGroup
	for k := range 8 {
		all.Go(func() {
			for i := range first {
				at := (i*(2*k+1) + 97*k) % len(first)
				d := dice(at)
				if again := d.chance(); again != first[at] {
					t.Errorf("number %d: %v, then %v", at, first[at], again)
				}
			}
		})
	}
	all.Wait()
}

func TestEveryTextEnds(t *testing.T) {
	d := dice(21)
	for _, n := range []int{0, 1, 5, 4096, 4097, 5000, 1 << 20} {
		for b := range 256 {
			s := strings.Repeat(string([]byte{byte(b)}), n)
			asExpected(t, s)
			ask(api.Up, s, s, math.Float64frombits(d.next()), n)
		}
		if n > 1<<13 {
			continue
		}
		for range 20 {
			asExpected(t, d.bytesOf(n))
		}
	}
}
