package ival_test

import (
	"testing"

	"verge/api"
	"verge/ival"
)

// P6.3

func TestOneArgument(t *testing.T) {
	d := dice(6010)
	for _, f := range unaries() {
		for _, x := range crossed(append(edges(), some()...)) {
			is(t, f.got(x), f.want(x), "%s(%x)", f.name, x)
		}
		for range 5000 {
			x := d.interval()
			is(t, f.got(x), f.want(x), "%s(%x)", f.name, x)
		}
	}
}

func TestTwoArguments(t *testing.T) {
	d := dice(6011)
	for _, f := range binaries() {
		for _, x := range usable(edges()) {
			for _, y := range usable(edges()) {
				is(t, f.got(x, y), f.want(x, y), "%s(%x, %x)", f.name, x, y)
			}
		}
		for range 6000 {
			x, y := d.interval(), d.interval()
			is(t, f.got(x, y), f.want(x, y), "%s(%x, %x)", f.name, x, y)
		}
	}
}

// Arguments are taken as they are read, each of them.
func TestAsTheyAreRead(t *testing.T) {
	others := []api.Interval{empty, entire, iv(0, 0), iv(-1, 2), iv(3, 4), iv(signed, 5), iv(2, 1)}
	for _, x := range crossed(edges()) {
		for _, f := range unaries() {
			is(t, f.got(x), f.want(x), "%s(%x)", f.name, x)
		}
		for _, y := range others {
			for _, f := range binaries() {
				is(t, f.got(x, y), f.want(x, y), "%s(%x, %x)", f.name, x, y)
				is(t, f.got(y, x), f.want(y, x), "%s(%x, %x)", f.name, y, x)
			}
			z := others[3]
			is(t, ival.FMA(x, y, z), wantFMA(x, y, z), "FMA(%x, %x, %x)", x, y, z)
			is(t, ival.FMA(y, x, z), wantFMA(y, x, z), "FMA(%x, %x, %x)", y, x, z)
			is(t, ival.FMA(z, y, x), wantFMA(z, y, x), "FMA(%x, %x, %x)", z, y, x)
		}
	}
}

func TestFMA(t *testing.T) {
	three := func(x, y, z api.Interval) {
		is(t, ival.FMA(x, y, z), wantFMA(x, y, z), "FMA(%x, %x, %x)", x, y, z)
	}
	factors, added := usable([]float64{-inf, -greatest, -1.5, 0, least, 2, inf}), usable([]float64{-inf, -greatest, 0, 0x1p-1000, greatest, inf})
	for _, x := range factors {
		for _, y := range factors {
			for _, z := range added {
				three(x, y, z)
			}
		}
	}
	d := dice(6012)
	for range 10000 {
		three(d.interval(), d.interval(), d.interval())
	}
	for range 2000 { // sums of which little is left
		x, y := iv(d.number(), inf), iv(d.number(), inf)
		x.Hi, y.Hi = x.Lo, y.Lo
		p := times(x.Lo, y.Lo)
		three(x, y, iv(0-p.up(), 0-p.down()))
	}
}

// The rows that the rounding of a product ahead of the sum would spoil.
func TestFMAIsRoundedOnce(t *testing.T) {
	const e = 0x1p-52
	for _, c := range []struct{ x, y, z, want api.Interval }{
		{iv(greatest, greatest), iv(2, 2), iv(-greatest, -greatest), iv(greatest, greatest)},
		{iv(-greatest, greatest), iv(2, 2), iv(-greatest, greatest), iv(-inf, inf)},
		{iv(-greatest, greatest), iv(-2, 2), iv(greatest, greatest), iv(-greatest, inf)},
		{iv(1+e, 1+e), iv(1-e, 1-e), iv(-1, -1), iv(-0x1p-104, -0x1p-104)},
		{iv(least, least), iv(least, least), iv(-least, least), iv(-least, 2*least)},
		{iv(-least, least), iv(0.5, 0.5), iv(0, 0), iv(-least, least)},
		{iv(0x1p600, 0x1p600), iv(0x1p600, inf), iv(-greatest, -1), iv(greatest, inf)},
	} {
		is(t, ival.FMA(c.x, c.y, c.z), c.want, "FMA(%x, %x, %x)", c.x, c.y, c.z)
	}
}

// W1, of one operation: what it makes of elements is held.
func TestElementsAreHeld(t *testing.T) {
	d := dice(6013)
	held := func(name string, got api.Interval, v value) {
		t.Helper()
		if !holds(got, v) {
			t.Errorf("%s: %x does not hold the value at %x", name, got, v.near)
		}
	}
	for range 5000 {
		x, y, z := d.interval(), d.interval(), d.interval()
		for range 4 {
			p, q, r := d.element(x), d.element(y), d.element(z)
			held("Neg", ival.Neg(x), sum(-p, 0))
			held("Add", ival.Add(x, y), sum(p, q))
			held("Sub", ival.Sub(x, y), sum(p, -q))
			held("Mul", ival.Mul(x, y), times(p, q))
			held("Sqr", ival.Sqr(x), times(p, p))
			held("FMA", ival.FMA(x, y, z), fused(p, q, r))
			if q != 0 {
				held("Div", ival.Div(x, y), over(p, q, 1))
				held("Recip", ival.Recip(y), over(1, q, 1))
			}
			if p >= 0 {
				held("Sqrt", ival.Sqrt(x), root(p))
			}
		}
	}
}

// The edges that the document names, written out.
func TestEdges(t *testing.T) {
	const big, tiny = greatest, least
	for _, c := range []struct {
		call      string
		got, want api.Interval
	}{
		{"a sum beyond the greatest, above", ival.Add(iv(1, big), iv(2, big)), iv(3, inf)},
		{"a sum beyond the greatest, below", ival.Add(iv(-big, -1), iv(-big, -2)), iv(-inf, -3)},
		{"both beyond it, below", ival.Add(iv(-big, -big), iv(-big, -big)), iv(-inf, -big)},
		{"Sub of half-lines", ival.Sub(iv(1, inf), iv(1, inf)), entire},
		{"Sub, all bounded below", ival.Sub(iv(1, inf), iv(-inf, 1)), iv(0, inf)},
		{"a product beyond the greatest, above", ival.Mul(iv(big, big), iv(2, 2)), iv(big, inf)},
		{"a product beyond the greatest, below", ival.Mul(iv(big, big), iv(-2, -2)), iv(-inf, -big)},
		{"a product below the least, above 0", ival.Mul(iv(tiny, tiny), iv(0.5, 0.5)), iv(0, tiny)},
		{"a product below the least, below 0", ival.Mul(iv(-tiny, -tiny), iv(0.5, 0.5)), iv(-tiny, 0)},
		{"0 times an infinity, at one end", ival.Mul(iv(0, 2), iv(3, inf)), iv(0, inf)},
		{"0 times all, the other way about", ival.Mul(entire, iv(0, 0)), iv(0, 0)},
		{"0 times a half-line", ival.Mul(iv(signed, signed), iv(-inf, -1)), iv(0, 0)},
		{"about 0 times below 0", ival.Mul(iv(-2, 3), iv(-5, -4)), iv(-15, 10)},
		{"about 0 times about 0", ival.Mul(iv(-2, 3), iv(-5, 4)), iv(-15, 12)},
		{"about 0 times about 0, the others", ival.Mul(iv(-3, 2), iv(-5, 6)), iv(-18, 15)},
		{"below 0 times below 0", ival.Mul(iv(-3, -2), iv(-5, -4)), iv(8, 15)},
		{"below 0 times up to 0", ival.Mul(iv(-3, -2), iv(-5, 0)), iv(0, 15)},
		{"half-lines below 0", ival.Mul(iv(-inf, -2), iv(-inf, -4)), iv(8, inf)},
		{"a number by an infinity", ival.Div(iv(3, 4), iv(2, inf)), iv(0, 2)},
		{"a number by an infinity below 0", ival.Div(iv(3, 4), iv(-inf, -2)), iv(-2, 0)},
		{"an infinity by an infinity", ival.Div(iv(-inf, -1), iv(2, inf)), iv(-inf, 0)},
		{"all by a half-line", ival.Div(entire, iv(2, inf)), entire},
		{"about 0 by below 0", ival.Div(iv(-6, 3), iv(-2, -1)), iv(-3, 6)},
		{"beyond the greatest", ival.Div(iv(big, big), iv(0.5, 0.5)), iv(big, inf)},
		{"below the least", ival.Div(iv(-tiny, tiny), iv(2, 2)), iv(-tiny, tiny)},
		{"all by 0", ival.Div(entire, iv(0, signed)), empty},
		{"0 by 0", ival.Div(iv(0, 0), iv(0, 0)), empty},
		{"0 by all", ival.Div(iv(0, 0), entire), iv(0, 0)},
		{"below 0 by 0 and above", ival.Div(iv(-2, -1), iv(0, 4)), iv(-inf, -0.25)},
		{"below 0 by 0 and below", ival.Div(iv(-2, -1), iv(-4, 0)), iv(0.25, inf)},
		{"from 0 on by 0 and above", ival.Div(iv(0, 1), iv(0, 4)), iv(0, inf)},
		{"up to 0 by 0 and above", ival.Div(iv(-1, 0), iv(0, 4)), iv(-inf, 0)},
		{"from 0 on by 0 and below", ival.Div(iv(0, 1), iv(-4, 0)), iv(-inf, 0)},
		{"up to 0 by 0 and below", ival.Div(iv(-1, 0), iv(-4, 0)), iv(0, inf)},
		{"above 0 by a half-line from 0", ival.Div(iv(1, 2), iv(0, inf)), iv(0, inf)},
		{"Recip of the least", ival.Recip(iv(tiny, tiny)), iv(big, inf)},
		{"Recip of 0", ival.Recip(iv(signed, 0)), empty},
		{"Recip up to 0", ival.Recip(iv(-2, 0)), iv(-inf, -0.5)},
		{"Sqr of all", ival.Sqr(entire), iv(0, inf)},
		{"Sqr of a half-line below 0", ival.Sqr(iv(-inf, -3)), iv(9, inf)},
		{"Sqr beyond the greatest", ival.Sqr(iv(-big, -big)), iv(big, inf)},
		{"Sqr below the least", ival.Sqr(iv(-tiny, -tiny)), iv(0, tiny)},
		{"Sqrt of all", ival.Sqrt(entire), iv(0, inf)},
		{"Sqrt up to 0", ival.Sqrt(iv(-4, signed)), iv(0, 0)},
		{"Sqrt of a half-line", ival.Sqrt(iv(4, inf)), iv(2, inf)},
		{"Sqrt just below 0", ival.Sqrt(iv(-inf, -tiny)), empty},
		{"FMA of half-lines", ival.FMA(iv(1, inf), iv(2, inf), iv(-inf, 3)), entire},
		{"FMA, 0 times all and a half-line", ival.FMA(entire, iv(0, 0), iv(3, inf)), iv(3, inf)},
		{"FMA, 0 times all and the other half-line", ival.FMA(iv(0, 0), entire, iv(-inf, 3)), iv(-inf, 3)},
		{"FMA, about 0 each", ival.FMA(iv(-2, 3), iv(-5, 4), iv(1, 2)), iv(-14, 14)},
		{"FMA, an Empty third", ival.FMA(iv(0, 0), iv(0, 0), iv(2, 1)), empty},
	} {
		is(t, c.got, c.want, "%s", c.call)
	}
}
