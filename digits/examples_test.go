package digits_test

import (
	"math"
	"strings"
	"testing"

	"verge/api"
	"verge/digits"
)

// The rows of the chapter's examples.

func read(t *testing.T, d int, s string, want float64) {
	t.Helper()
	if x, at, e := digits.Read(d, s); !same(x, want) || at != 0 || e != api.OK {
		t.Errorf("Read(%d, %.60q) = %v (%x), %d, %d; want %v (%x)", d, s, x, math.Float64bits(x), at, e, want, math.Float64bits(want))
	}
}

// refused asks in every direction, and Cmp on either side.
func refused(t *testing.T, s string, at int, e api.Errno) {
	t.Helper()
	for _, d := range directions {
		if x, place, err := digits.Read(d, s); !same(x, 0) || place != at || err != e {
			t.Errorf("Read(%d, %.60q) = %v, %d, %d; want the place %d, %d", d, s, x, place, err, at, e)
		}
	}
	for _, other := range []string{"0", "-12.5", "y", "1e10000"} {
		if o, place, err := digits.Cmp(s, other); o != 0 || place != at || err != e {
			t.Errorf("Cmp(%.60q, %q) = %d, %d, %d; want the place %d, %d", s, other, o, place, err, at, e)
		}
	}
	if o, place, err := digits.Cmp("12.5", s); o != 0 || place != 5+at || err != e {
		t.Errorf("Cmp(12.5, %.60q) = %d, %d, %d; want the place %d, %d", s, o, place, err, 5+at, e)
	}
}

func TestExamplesOfReading(t *testing.T) {
	tenth := math.Float64frombits(0x3fb999999999999a)
	read(t, api.Near, "0.1", tenth)
	read(t, api.Up, "1/10", tenth)
	read(t, api.Down, "+.1e0", math.Float64frombits(0x3fb9999999999999))
	read(t, api.Near, "0x1.8p-3", 0.1875)
	for _, d := range directions {
		read(t, d, "-0", 0)
		read(t, d, "0/5", 0)
		read(t, d, "0X.8P+1", 1)
	}
	read(t, api.Near, "1e400", inf)
	read(t, api.Down, "1e400", greatest)
	read(t, api.Up, "-1e400", -greatest)
	read(t, api.Up, "1e-9999", least)
	read(t, api.Near, "1e-400", 0)
	read(t, api.Near, "1e-0009999", 0)
}

func TestExamplesOfRefusals(t *testing.T) {
	for _, c := range []struct {
		s  string
		at int
		e  api.Errno
	}{
		{"", 0, api.ErrDigits}, {"+", 1, api.ErrDigits}, {".", 1, api.ErrDigits}, {"e1", 0, api.ErrDigits}, {"nan", 0, api.ErrDigits}, {" 1", 0, api.ErrDigits},
		{"1e", 2, api.ErrDigits}, {"1e+", 3, api.ErrDigits}, {"1.5.2", 3, api.ErrDigits}, {"0x", 2, api.ErrDigits}, {"0x1", 3, api.ErrDigits}, {"0x1p", 4, api.ErrDigits},
		{"1/", 2, api.ErrDigits}, {"1/-2", 2, api.ErrDigits}, {"1/2e3", 3, api.ErrDigits}, {"1 ", 1, api.ErrDigits},
		{"1/0", 2, api.ErrDigits}, {"00/000", 3, api.ErrDigits},
		{"1e10000", 2, api.ErrExp}, {"0x1p+10000", 5, api.ErrExp}, {"1e99999999999999999999", 2, api.ErrExp},
		{strings.Repeat("0", 4097), 4096, api.ErrLong}, {strings.Repeat("x", 4097), 4096, api.ErrLong},
	} {
		refused(t, c.s, c.at, c.e)
	}
}

func TestExamplesOfComparing(t *testing.T) {
	for _, c := range []struct {
		s, t      string
		order, at int
		e         api.Errno
	}{
		{"0.1", "1/10", 0, 0, api.OK}, {"1e-400", "0", 1, 0, api.OK}, {"1.0000000000000000000001", "1", 1, 0, api.OK}, {"-5", "0x1p0", -1, 0, api.OK},
		{"x", "y", 0, 0, api.ErrDigits}, {"12", "y", 0, 3, api.ErrDigits}, {"12", "1/0", 0, 5, api.ErrDigits},
	} {
		if o, at, e := digits.Cmp(c.s, c.t); o != c.order || at != c.at || e != c.e {
			t.Errorf("Cmp(%q, %q) = %d, %d, %d", c.s, c.t, o, at, e)
		}
	}
}

func TestExamplesOfPrinting(t *testing.T) {
	for _, c := range []struct {
		d    int
		x    float64
		n    int
		want string
	}{
		{api.Down, 0.1, 3, "1.00e-1"}, {api.Up, 0.1, 3, "1.01e-1"}, {api.Near, 0.1, 17, "1.0000000000000001e-1"}, {api.Up, -0.1, 2, "-1.0e-1"},
		{api.Near, 2.5, 1, "2e0"}, {api.Near, 3.5, 1, "4e0"}, {api.Near, 999.5, 3, "1.00e3"}, {api.Up, 999.5, 3, "1.00e3"}, {api.Down, 999.5, 1, "9e2"},
	} {
		if s, e := digits.Print(c.d, c.x, c.n); s != c.want || e != api.OK {
			t.Errorf("Print(%d, %v, %d) = %q, %d; want %q", c.d, c.x, c.n, s, e, c.want)
		}
	}
	for _, d := range directions {
		if s, e := digits.Print(d, 0, 3); s != "0.00e0" || e != api.OK {
			t.Errorf("Print(%d, 0, 3) = %q, %d", d, s, e)
		}
		for _, c := range []struct {
			x float64
			n int
		}{{1, 0}, {1, 1101}, {inf, 5}} {
			if s, e := digits.Print(d, c.x, c.n); s != "" || e != api.ErrArg {
				t.Errorf("Print(%d, %v, %d) = %q, %d", d, c.x, c.n, s, e)
			}
		}
	}
}

func TestExamplesOfWholeNumbers(t *testing.T) {
	type call func(float64) (string, api.Errno)
	for _, c := range []struct {
		name string
		call call
		x    float64
		want string
	}{
		{"Exact", digits.Exact, 0.5, "5e-1"}, {"Exact", digits.Exact, 100, "1e2"}, {"Exact", digits.Exact, -1.5, "-1.5e0"}, {"Exact", digits.Exact, 0, "0e0"},
		{"Exact", digits.Exact, 0.1, "1.000000000000000055511151231257827021181583404541015625e-1"},
		{"Hex", digits.Hex, 1, "0x1p0"}, {"Hex", digits.Hex, -0.1, "-0x1.999999999999ap-4"}, {"Hex", digits.Hex, least, "0x1p-1074"}, {"Hex", digits.Hex, 0, "0x0p0"},
		{"Short", digits.Short, 0.1, "1e-1"}, {"Short", digits.Short, least, "5e-324"}, {"Short", digits.Short, 1e23, "1e23"}, {"Short", digits.Short, 1 << 53, "9.007199254740992e15"}, {"Short", digits.Short, -2.5, "-2.5e0"},
	} {
		if s, e := c.call(c.x); s != c.want || e != api.OK {
			t.Errorf("%s(%v) = %q, %d; want %q", c.name, c.x, s, e, c.want)
		}
	}
}
