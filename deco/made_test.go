package deco_test

import (
	"math"
	"testing"

	"verge/api"
	"verge/deco"
)

// P11.1, and IsNaI of P11.5: one way to read, by four calls.

func checkMade(t *testing.T, x api.Interval, d int) {
	t.Helper()
	want := readDeco(api.Deco{X: x, D: d})
	isDeco(t, deco.Set(x, d), want, "Set(%x, %d)", x, d)
	isDeco(t, deco.Read(api.Deco{X: x, D: d}), want, "Read({%x, %d})", x, d)
	if got := deco.IsNaI(api.Deco{X: x, D: d}); got != (want == nai) {
		t.Errorf("IsNaI({%x, %d}) = %t", x, d, got)
	}
}

// checkNew asks by the promise's own words.
func checkNew(t *testing.T, x api.Interval) {
	t.Helper()
	y := iv(x.Lo+0, x.Hi+0)
	want := api.Deco{X: y, D: api.Dac}
	switch {
	case !right(y):
		want = nai
	case y == empty:
		want.D = api.Trv
	case finite(y):
		want.D = api.Com
	}
	isDeco(t, deco.New(x), want, "New(%x)", x)
}

func TestMadeOfEdges(t *testing.T) {
	for _, x := range crossed(patterns()) {
		checkNew(t, x)
		for _, d := range numbers() {
			checkMade(t, x, d)
		}
	}
}

// All numbers about the decorations, and far beyond.
func TestMadeWithAnyNumber(t *testing.T) {
	for _, x := range []api.Interval{iv(1, 2), iv(1, inf), iv(-inf, 1), entire, empty, iv(2, 1), iv(nan, nan), iv(signed, signed)} {
		for d := -300; d <= 300; d++ {
			checkMade(t, x, d)
		}
		for shift := range 63 {
			for _, d := range numbers() {
				checkMade(t, x, d+1<<shift)
				checkMade(t, x, d-1<<shift)
			}
		}
	}
}

func TestMadeOfAnyBits(t *testing.T) {
	d := dice(11001)
	for range 100000 {
		x := d.wild()
		checkNew(t, x)
		checkMade(t, x, numbers()[d.below(len(numbers()))])
		checkMade(t, x, ranks()[d.below(4)])
		checkMade(t, x, int(d.next()))
		checkMade(t, d.interval(), d.below(20))
	}
}

func TestMadeWrittenOut(t *testing.T) {
	for _, row := range []struct{ got, want api.Deco }{
		{deco.NaI(), api.Deco{X: api.Interval{Lo: math.Inf(1), Hi: math.Inf(-1)}, D: 0}},
		{deco.New(entire), api.Deco{X: entire, D: api.Dac}},
		{deco.New(iv(-inf, 3)), dv(-inf, 3, api.Dac)},
		{deco.New(iv(-greatest, greatest)), dv(-greatest, greatest, api.Com)},
		{deco.New(iv(inf, inf)), nai},
		{deco.New(iv(-inf, -inf)), nai},
		{deco.New(iv(nan, nan)), nai},
		{deco.New(iv(nan, -inf)), nai},
		{deco.New(iv(inf, nan)), nai},
		{deco.New(iv(inf, 0)), nai},
		{deco.New(iv(0, -inf)), nai},
		{deco.New(iv(-1, signed)), dv(-1, 0, api.Com)},
		{deco.Set(entire, api.Com), api.Deco{X: entire, D: api.Dac}},
		{deco.Set(entire, api.Dac), api.Deco{X: entire, D: api.Dac}},
		{deco.Set(entire, api.Def), api.Deco{X: entire, D: api.Def}},
		{deco.Set(entire, api.Trv), api.Deco{X: entire, D: api.Trv}},
		{deco.Set(empty, api.Com), api.Deco{X: empty, D: api.Trv}},
		{deco.Set(empty, api.Trv), api.Deco{X: empty, D: api.Trv}},
		{deco.Set(empty, api.Ill), nai},
		{deco.Set(iv(2, 1), api.Trv), nai},
		{deco.Set(iv(1, 2), math.MinInt), nai},
		{deco.Set(iv(1, 2), math.MaxInt), nai},
		{deco.Set(iv(1, 2), -4), nai},
		{deco.Set(iv(1, 2), 20), nai},
		{deco.Read(dv(signed, signed, api.Def)), dv(0, 0, api.Def)},
		{deco.Read(dv(signed, inf, api.Com)), dv(0, inf, api.Dac)},
		{deco.Read(dv(-3, 4, api.Com)), dv(-3, 4, api.Com)},
		{deco.Read(api.Deco{}), nai},
	} {
		isDeco(t, row.got, row.want, "one made")
	}
}
