package lit_test

import (
	"math"
	"testing"

	"verge/api"
	"verge/digits"
	"verge/lit"
)

// P12.4, P12.5 and P12.6

// ends tells the text of an interval, as it is read, whose ends that are numbers are told by lo and hi.
func ends(x api.Interval, lo, hi func(float64) (string, api.Errno)) string {
	switch {
	case x == empty:
		return "[empty]"
	case x == entire:
		return "[entire]"
	}
	low, high := "-inf", "inf"
	if x.Lo != -inf {
		low, _ = lo(x.Lo)
	}
	if x.Hi != inf {
		high, _ = hi(x.Hi)
	}
	return "[" + low + ", " + high + "]"
}

func printed(x api.Interval, n int) string {
	in := func(d int) func(float64) (string, api.Errno) {
		return func(x float64) (string, api.Errno) { return digits.Print(d, x, n) }
	}
	return ends(asRead(x), in(api.Down), in(api.Up))
}

func exact(x api.Interval) string {
	x = asRead(x)
	if x.Lo == x.Hi {
		one, _ := digits.Exact(x.Lo)
		return "[" + one + "]"
	}
	return ends(x, digits.Exact, digits.Exact)
}

// ranked: with its decoration's word.
func ranked(x api.Deco, text func(api.Interval) string) string {
	x = asReadDeco(x)
	if x == nai {
		return "[nai]"
	}
	return text(x.X) + map[int]string{api.Com: "_com", api.Dac: "_dac", api.Def: "_def", api.Trv: "_trv"}[x.D]
}

func checkPrint(t *testing.T, x api.Interval, n int) {
	t.Helper()
	if s, e := lit.Print(x, n); s != printed(x, n) || e != api.OK {
		t.Errorf("Print(%x, %d) = %q, %d; want %q", x, n, s, e, printed(x, n))
	}
}

func checkPrintDeco(t *testing.T, x api.Deco, n int) {
	t.Helper()
	want := ranked(x, func(x api.Interval) string { return printed(x, n) })
	if s, e := lit.PrintDeco(x, n); s != want || e != api.OK {
		t.Errorf("PrintDeco(%x, %d) = %q, %d; want %q", x, n, s, e, want)
	}
}

func checkExact(t *testing.T, x api.Interval) {
	t.Helper()
	if s := lit.Exact(x); s != exact(x) {
		t.Errorf("Exact(%x) = %q; want %q", x, s, exact(x))
	}
}

func checkExactDeco(t *testing.T, x api.Deco) {
	t.Helper()
	if s := lit.ExactDeco(x); s != ranked(x, exact) {
		t.Errorf("ExactDeco(%x) = %q; want %q", x, s, ranked(x, exact))
	}
}

func TestTold(t *testing.T) {
	eachInterval(1500, 12020, func(x api.Interval) {
		checkExact(t, x)
		for _, n := range []int{1, 2, 3, 17, 40} {
			checkPrint(t, x, n)
		}
	})
}

func TestToldWithManyDigits(t *testing.T) {
	d := dice(12021)
	for _, x := range []api.Interval{empty, entire, iv(0, 0), iv(1, 1), iv(-0.1, 0.1), iv(least, greatest), iv(-greatest, -least), iv(below(0x1p-1021), inf), iv(-inf, 0.1), iv(2, 1), d.interval()} {
		for _, n := range []int{1, 2, 309, 766, 767, 768, 1099, 1100} {
			checkPrint(t, x, n)
			checkPrintDeco(t, api.Deco{X: x, D: api.Com}, n)
		}
	}
}

func TestToldDecorated(t *testing.T) {
	d := dice(12022)
	eachInterval(500, 12023, func(x api.Interval) {
		for _, rank := range append(ranks(), int(d.next())) {
			checkExactDeco(t, api.Deco{X: x, D: rank})
			checkPrintDeco(t, api.Deco{X: x, D: rank}, 1+d.below(20))
		}
	})
	for rank := -300; rank <= 300; rank++ {
		for _, x := range []api.Interval{iv(1, 2), iv(1, inf), entire, empty, iv(2, 1)} {
			checkExactDeco(t, api.Deco{X: x, D: rank})
			checkPrintDeco(t, api.Deco{X: x, D: rank}, 3)
		}
	}
}

func TestToldByHand(t *testing.T) {
	for _, row := range []struct {
		x    api.Interval
		n    int
		want string
	}{
		{iv(-0.1, 0.1), 2, "[-1.1e-1, 1.1e-1]"}, {iv(1, 1), 3, "[1.00e0, 1.00e0]"}, {iv(signed, signed), 1, "[0e0, 0e0]"}, {iv(signed, 0), 2, "[0.0e0, 0.0e0]"}, {iv(-inf, -1.25), 2, "[-inf, -1.2e0]"}, {iv(-1.25, inf), 2, "[-1.3e0, inf]"}, {iv(greatest, greatest), 1, "[1e308, 2e308]"}, {iv(least, least), 1, "[4e-324, 5e-324]"}, {iv(-999.5, 999.5), 3, "[-1.00e3, 1.00e3]"},
		{iv(nan, 1), 1, "[empty]"}, {iv(1, nan), 1, "[empty]"}, {iv(inf, inf), 1, "[empty]"}, {iv(-inf, -inf), 1, "[empty]"}, {iv(3, 2), 1100, "[empty]"}, {entire, 1, "[entire]"},
	} {
		if s, e := lit.Print(row.x, row.n); s != row.want || e != api.OK {
			t.Errorf("Print(%v, %d) = %q, %d; want %q", row.x, row.n, s, e, row.want)
		}
	}
	for _, row := range []struct {
		x    api.Deco
		want string
	}{
		{dv(signed, signed, api.Com), "[0e0]_com"}, {dv(signed, 1, api.Dac), "[0e0, 1e0]_dac"}, {dv(-inf, inf, api.Com), "[entire]_dac"}, {dv(-inf, inf, api.Trv), "[entire]_trv"}, {dv(1, 2, api.Def), "[1e0, 2e0]_def"}, {dv(2, 1, api.Trv), "[nai]"}, {dv(nan, 1, api.Com), "[nai]"}, {dv(inf, inf, api.Trv), "[nai]"}, {api.Deco{X: empty, D: api.Com}, "[empty]_trv"}, {api.Deco{X: empty, D: 5}, "[nai]"}, {api.Deco{}, "[nai]"}, {dv(1, inf, api.Com), "[1e0, inf]_dac"}, {dv(0.5, 0.5, api.Trv), "[5e-1]_trv"},
	} {
		if s := lit.ExactDeco(row.x); s != row.want {
			t.Errorf("ExactDeco(%v) = %q; want %q", row.x, s, row.want)
		}
	}
}

// How many digits may be asked for, of whatever interval.
func TestRefusedNumbersOfDigits(t *testing.T) {
	for _, n := range []int{math.MinInt, -1100, -1, 0, 1101, 1102, 4096, 1 << 30, math.MaxInt} {
		for _, x := range []api.Interval{empty, entire, iv(1, 2), iv(1, inf), iv(2, 1), iv(nan, nan), iv(0, 0)} {
			if s, e := lit.Print(x, n); s != "" || e != api.ErrArg {
				t.Errorf("Print(%v, %d) = %q, %d", x, n, s, e)
			}
			for _, rank := range ranks() {
				if s, e := lit.PrintDeco(api.Deco{X: x, D: rank}, n); s != "" || e != api.ErrArg {
					t.Errorf("PrintDeco({%v, %d}, %d) = %q, %d", x, rank, n, s, e)
				}
			}
		}
	}
}
