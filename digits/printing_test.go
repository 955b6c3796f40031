package digits_test

import (
	"math"
	"strconv"
	"strings"
	"testing"

	"verge/api"
	"verge/digits"
)

// told asks for a text and OK.
func told(t *testing.T, got string, e api.Errno, want, what string, args ...any) {
	t.Helper()
	if got != want || e != api.OK {
		t.Errorf(what+" = %q, %d; want %q", append(args, got, e, want)...)
	}
}

// eachNumber goes through those at the edges, and n by chance.
func eachNumber(n int, seed dice, f func(x float64)) {
	for _, x := range numbers() {
		f(x)
	}
	for range n {
		f(seed.number())
	}
}

// fromLibrary turns the library's exponent into the chapter's: no plus, no noughts ahead.
func fromLibrary(s, letter string) string {
	head, exp, _ := strings.Cut(s, letter)
	n, err := strconv.Atoi(exp)
	if err != nil {
		panic(s)
	}
	return head + letter + strconv.Itoa(n)
}

// P5.3

func asPrinted(t *testing.T, x float64, n int, want inDirections) {
	t.Helper()
	for _, d := range directions {
		s, e := digits.Print(d, x, n)
		told(t, s, e, want.of(d), "Print(%d, %x, %d)", d, x, n)
	}
}

func TestPrintDigits(t *testing.T) {
	eachNumber(500, 6, func(x float64) {
		for _, n := range []int{1, 2, 3, 5, 16, 17, 18} {
			asPrinted(t, x, n, printed(x, n))
		}
	})
}

func TestPrintManyDigits(t *testing.T) {
	for _, x := range []float64{0, minus, 1, -1, 0.1, 1e22, 1e23, math.Pi, least, -3 * least, 0x1p-1022, math.Nextafter(0x1p-1022, 0), math.Nextafter(0x1p-1021, 0), greatest, -greatest} {
		for _, n := range []int{19, 50, 55, 56, 100, 308, 309, 310, 700, 750, 751, 752, 766, 767, 768, 1099, 1100} {
			asPrinted(t, x, n, printed(x, n))
		}
	}
}

func TestPrintRefusals(t *testing.T) {
	for _, d := range directions {
		for _, n := range []int{minInt, -1100, -1, 0, 1101, 1102, 4096, maxInt} {
			for _, x := range []float64{0, minus, 1, -0.1, greatest, inf, -inf, nan} {
				if s, e := digits.Print(d, x, n); s != "" || e != api.ErrArg {
					t.Errorf("Print(%d, %v, %d) = %q, %d", d, x, n, s, e)
				}
			}
		}
		for _, n := range []int{1, 17, 1100} {
			for _, x := range []float64{inf, -inf, nan, math.Float64frombits(0xfff0000000000001)} {
				if s, e := digits.Print(d, x, n); s != "" || e != api.ErrArg {
					t.Errorf("Print(%d, %v, %d) = %q, %d", d, x, n, s, e)
				}
			}
		}
	}
}

// Digits that are rounded up to one digit more, and ties.
func TestPrintCarries(t *testing.T) {
	for _, c := range []struct {
		x    float64
		n    int
		want inDirections
	}{
		{9.5, 1, inDirections{"9e0", "1e1", "1e1"}}, {-9.5, 1, inDirections{"-1e1", "-1e1", "-9e0"}}, {95, 1, inDirections{"9e1", "1e2", "1e2"}}, {9.25, 1, inDirections{"9e0", "9e0", "1e1"}}, {9.75, 1, inDirections{"9e0", "1e1", "1e1"}},
		{99.5, 2, inDirections{"9.9e1", "1.0e2", "1.0e2"}}, {99.5, 1, inDirections{"9e1", "1e2", "1e2"}}, {99.5, 3, inDirections{"9.95e1", "9.95e1", "9.95e1"}}, {99.5, 4, inDirections{"9.950e1", "9.950e1", "9.950e1"}}, {-999.5, 3, inDirections{"-1.00e3", "-1.00e3", "-9.99e2"}}, {999.25, 3, inDirections{"9.99e2", "9.99e2", "1.00e3"}},
		{0.5, 1, inDirections{"5e-1", "5e-1", "5e-1"}}, {1.5, 1, inDirections{"1e0", "2e0", "2e0"}}, {2.5, 1, inDirections{"2e0", "2e0", "3e0"}}, {-2.5, 1, inDirections{"-3e0", "-2e0", "-2e0"}}, {6.5, 1, inDirections{"6e0", "6e0", "7e0"}}, {10.5, 2, inDirections{"1.0e1", "1.0e1", "1.1e1"}}, {19.5, 2, inDirections{"1.9e1", "2.0e1", "2.0e1"}}, {1995, 3, inDirections{"1.99e3", "2.00e3", "2.00e3"}},
		{2.5000000000000004, 1, inDirections{"2e0", "3e0", "3e0"}}, {3.4999999999999996, 1, inDirections{"3e0", "3e0", "4e0"}}, {8.999999999999998, 1, inDirections{"8e0", "9e0", "9e0"}}, {9.999999999999998, 1, inDirections{"9e0", "1e1", "1e1"}}, {9.999999999999998, 15, inDirections{"9.99999999999999e0", "1.00000000000000e1", "1.00000000000000e1"}}, {10.000000000000002, 1, inDirections{"1e1", "1e1", "2e1"}},
		{greatest, 1, inDirections{"1e308", "2e308", "2e308"}}, {least, 1, inDirections{"4e-324", "5e-324", "5e-324"}}, {1e23, 1, inDirections{"9e22", "1e23", "1e23"}}, {1e22, 1, inDirections{"1e22", "1e22", "1e22"}}, {1e22, 3, inDirections{"1.00e22", "1.00e22", "1.00e22"}},
	} {
		asPrinted(t, c.x, c.n, c.want)
	}
}

// The library prints the nearest.
func TestPrintAsTheLibrary(t *testing.T) {
	eachNumber(4000, 7, func(x float64) {
		x += 0
		for _, n := range []int{1, 4, 17, 40, 800} {
			s, e := digits.Print(api.Near, x, n)
			told(t, s, e, fromLibrary(strconv.FormatFloat(x, 'e', n-1, 64), "e"), "Print(Near, %x, %d)", x, n)
		}
	})
}

// P5.4

func TestExactDigits(t *testing.T) {
	eachNumber(3000, 8, func(x float64) {
		s, e := digits.Exact(x)
		told(t, s, e, exactForm(x), "Exact(%x)", x)
	})
}

// P5.5

func TestHexDigits(t *testing.T) {
	hexIs := func(x float64, want string) {
		s, e := digits.Hex(x)
		told(t, s, e, want, "Hex(%x)", x)
	}
	eachNumber(20000, 9, func(x float64) {
		hexIs(x, fromLibrary(strconv.FormatFloat(x+0, 'x', -1, 64), "p"))
	})
	for n := range 52 {
		x := math.Float64frombits(1 << n)
		hexIs(x, "0x1p"+strconv.Itoa(n-1074))
		hexIs(-1-math.Ldexp(1, -n-1), "-0x1."+strings.Repeat("0", n/4)+strconv.Itoa(8>>(n%4))+"p0")
	}
	hexIs(minus, "0x0p0")
	hexIs(math.Nextafter(0x1p-1022, 0), "0x1.ffffffffffffep-1023")
	hexIs(greatest, "0x1.fffffffffffffp1023")
	hexIs(10, "0x1.4p3")
	hexIs(0xabcdef, "0x1.579bdep23")
}

// P5.6

func TestShortDigits(t *testing.T) {
	eachNumber(1500, 10, func(x float64) {
		s, e := digits.Short(x)
		told(t, s, e, shortForm(x), "Short(%x)", x)
	})
}

// At a power of 2 there is less room below than above: what is nearest need not be read back.
func TestShortOfPowersOfTwo(t *testing.T) {
	for n := -1074; n < 1024; n++ {
		x := math.Ldexp(1, n)
		s, e := digits.Short(x)
		told(t, s, e, shortForm(x), "Short(2^%d)", n)
	}
	for _, c := range []struct {
		x           float64
		short, near string
	}{{0x1p-44, "5.684341886080802e-14", "5.684341886080801e-14"}, {0x1p-24, "5.960464477539063e-8", "5.960464477539062e-8"}, {-0x1p89, "-6.189700196426902e26", "-6.189700196426901e26"}} {
		s, e := digits.Short(c.x)
		told(t, s, e, c.short, "Short(%x)", c.x)
		s, e = digits.Print(api.Near, c.x, 16)
		told(t, s, e, c.near, "Print(Near, %x, 16)", c.x)
	}
}

func TestShortOfTies(t *testing.T) {
	for _, c := range []struct {
		x    float64
		want string
	}{
		{0x1p50 + 0.25, "1.1258999068426242e15"}, {0x1p50 + 0.75, "1.1258999068426248e15"}, {-0x1p50 - 0.25, "-1.1258999068426242e15"}, {-0x1p50 - 0.75, "-1.1258999068426248e15"}, {0x1p50 + 1.25, "1.1258999068426252e15"},
		{0x1p49 + 0.25, "5.629499534213122e14"}, {0x1p49 + 0.75, "5.629499534213128e14"}, {0x1p51 - 0.25, "2.2517998136852478e15"}, {0x1p51 - 0.75, "2.2517998136852472e15"},
	} {
		s, e := digits.Short(c.x)
		told(t, s, e, c.want, "Short(%x)", c.x)
		told(t, shortForm(c.x), api.OK, c.want, "by the words: Short(%x)", c.x)
	}
}

func TestShortAsTheLibrary(t *testing.T) {
	eachNumber(20000, 11, func(x float64) {
		s, e := digits.Short(x)
		told(t, s, e, fromLibrary(strconv.FormatFloat(x+0, 'e', -1, 64), "e"), "Short(%x)", x)
	})
}

func TestNoNumbers(t *testing.T) {
	for name, call := range map[string]func(float64) (string, api.Errno){"Exact": digits.Exact, "Hex": digits.Hex, "Short": digits.Short} {
		for _, x := range []float64{inf, -inf, nan, -nan, math.Float64frombits(0x7ff0000000000001), math.Float64frombits(math.MaxUint64)} {
			if s, e := call(x); s != "" || e != api.ErrArg {
				t.Errorf("%s(%v) = %q, %d", name, x, s, e)
			}
		}
	}
}
