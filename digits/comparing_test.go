package digits_test

import (
	"math/big"
	"slices"
	"strings"
	"testing"

	"verge/api"
	"verge/digits"
)

// P5.2

func compared(t *testing.T, a, b string) {
	t.Helper()
	first, second := expect(a), expect(b)
	want, at, e := 0, 0, api.OK
	switch {
	case first.e != api.OK:
		at, e = first.at, first.e
	case second.e != api.OK:
		at, e = len(a)+1+second.at, second.e
	default:
		want = first.says.Cmp(second.says)
	}
	if o, place, err := digits.Cmp(a, b); o != want || place != at || err != e {
		t.Errorf("Cmp(%.60q, %.60q) = %d, %d, %d; want %d, %d, %d", a, b, o, place, err, want, at, e)
	}
}

func bothWays(t *testing.T, a, b string) {
	t.Helper()
	compared(t, a, b)
	compared(t, b, a)
}

func TestCmpFewTexts(t *testing.T) {
	l := []string{"0", "-0", "0x0p5", "0/7", "1", "-1", "+1.0", "10e-1", "0x1p0", "0x10p-4", "3/3", "2", "-2", "-3", "0.5", "1/2", "0x.8p0", "5e-1", "1/3", "0.3333333333333333", "0.33333333333333333333333333333333", "-1/3", "1e400", "2e400", "1e9999", "-1e9999", "0x1p9999", "-0x1p9999", "1e-400", "2e-400", "1e-9999", "-1e-9999", "0x1p-9999", "1e3000", "1e3010", "1.0000000000000000000001", "0x1.00000000000000000001p0", "9007199254740992", "9007199254740993", "0.1", "1/10", "0x1.999999999999ap-4",
		"", "x", "1/0", "1e10000", "0x1", "-", strings.Repeat("0", 4096), strings.Repeat("9", 4097)}
	for _, a := range l {
		for _, b := range l {
			compared(t, a, b)
		}
	}
}

// Which of two faults is told, and where.
func TestCmpPlaces(t *testing.T) {
	long, full := strings.Repeat("1", 4097), strings.Repeat("1", 4096)
	for _, c := range []struct {
		s, t string
		at   int
		e    api.Errno
	}{
		{"", "", 0, api.ErrDigits}, {"1", "", 2, api.ErrDigits}, {"", "1", 0, api.ErrDigits}, {"1e10000", "x", 2, api.ErrExp}, {"x", "1e10000", 0, api.ErrDigits}, {"1", "1e-10000", 5, api.ErrExp}, {"-1.50", "7/00", 8, api.ErrDigits}, {"1/0", "1e10000", 2, api.ErrDigits},
		{long, "x", 4096, api.ErrLong}, {"x", long, 0, api.ErrDigits}, {"1", long, 2 + 4096, api.ErrLong}, {full, long, 4097 + 4096, api.ErrLong}, {full, "1x", 4097 + 1, api.ErrDigits}, {long, long, 4096, api.ErrLong},
	} {
		if o, at, e := digits.Cmp(c.s, c.t); o != 0 || at != c.at || e != c.e {
			t.Errorf("Cmp(%.30q, %.30q) = %d, %d, %d; want %d, %d", c.s, c.t, o, at, e, c.at, c.e)
		}
	}
}

func TestCmpAnyNumerals(t *testing.T) {
	d := dice(4)
	for range 6000 {
		a, b := d.numeral(pick(&d, 2, 9, 40)), d.numeral(pick(&d, 2, 9, 40))
		bothWays(t, a, b)
		bothWays(t, a, d.spoilt(a))
	}
}

// Numbers that part far behind what a float tells, in all kinds of numerals.
func TestCmpHairs(t *testing.T) {
	d := dice(5)
	for range 60 {
		whole := new(big.Int).Lsh(big.NewInt(int64(d.next()>>20)), uint(d.below(60)))
		ten := -d.below(120)
		var l []string
		for _, off := range []int64{-1, 0, 1} {
			near := new(big.Int).Add(new(big.Int).Mul(whole, power(10, 50).Num()), big.NewInt(off))
			l = append(l, texts(near, ten-50)...)
			l = append(l, texts(near.Neg(near), ten-50)...)
		}
		for _, a := range l {
			for _, b := range l {
				compared(t, a, b)
			}
		}
	}
}

// The greatest that texts can say, held against the least.
func TestCmpLongTexts(t *testing.T) {
	nines, noughts := strings.Repeat("9", 4080), strings.Repeat("0", 4079)
	l := []string{nines + "e9999", nines + "e-9999", "." + nines + "e9999", "." + nines + "e-9999", "." + noughts + "1e-9999", "1" + noughts + "e9999", "0x" + strings.Repeat("f", 4080) + "p9999", "0x." + noughts + "1p-9999", "0x" + strings.Repeat("f", 4080) + "p-9999", nines + "/1", "1/" + nines, nines[:2040] + "/" + nines[:2041], nines[:2041] + "/" + nines[:2040]}
	for _, s := range slices.Clone(l) {
		l = append(l, "-"+s)
	}
	for _, a := range l {
		for _, b := range l {
			compared(t, a, b)
		}
	}
}
