package power_test

import (
	"math"
	"testing"

	"verge/api"
	"verge/power"
)

// P7.1, P7.3, P7.4

func TestOneArgument(t *testing.T) {
	for _, f := range unaries() {
		eachInterval(7010, func(x api.Interval) {
			is(t, f.got(x), f.want(x), "%s({%x, %x})", f.name, x.Lo, x.Hi)
		})
	}
}

func TestTwoArguments(t *testing.T) {
	d := dice(7011)
	for _, f := range binaries() {
		for _, x := range crossed(edges()) {
			for _, y := range crossed(edges()) {
				is(t, f.got(x, y), f.want(x, y), "%s(%x, %x)", f.name, x, y)
			}
		}
		for range 6000 {
			x, y := d.interval(), d.interval()
			is(t, f.got(x, y), f.want(x, y), "%s(%x, %x)", f.name, x, y)
			is(t, f.got(y, x), f.want(x, y), "%s(%x, %x)", f.name, y, x)
		}
	}
}

// The steps of the numbers at which one may go wrong: each as an interval of its own, and as the
// end of a longer one.
func TestStepsAboutHalves(t *testing.T) {
	for _, f := range steps() {
		for _, p := range halves() {
			for _, x := range []api.Interval{iv(p, p), iv(p, above(p)), iv(-inf, p), iv(p, inf), iv(min(p, -p), max(p, -p))} {
				is(t, f.got(x), f.want(x), "%s({%x, %x})", f.name, x.Lo, x.Hi)
			}
		}
	}
}

func TestStepsOfQuarters(t *testing.T) {
	for quarters := -64; quarters <= 64; quarters++ {
		for _, f := range steps() {
			x := iv(float64(quarters)/4, float64(quarters)/4)
			is(t, f.got(x), f.want(x), "%s({%v, %v})", f.name, x.Lo, x.Hi)
		}
	}
}

// The edges that the document names, written out.
func TestEdgesOfMagnitudes(t *testing.T) {
	const big, tiny = greatest, least
	checkRows(t, []row{
		{"Abs of Empty", power.Abs(empty), empty},
		{"Abs of Entire", power.Abs(entire), iv(0, inf)},
		{"Abs of a half-line below 0", power.Abs(iv(-inf, -2)), iv(2, inf)},
		{"Abs of a half-line above 0", power.Abs(iv(2, inf)), iv(2, inf)},
		{"Abs of {-0, -0}", power.Abs(iv(signed, signed)), iv(0, 0)},
		{"Abs up to 0", power.Abs(iv(-big, 0)), iv(0, big)},
		{"Abs from -0 on", power.Abs(iv(signed, 3)), iv(0, 3)},
		{"Abs about 0", power.Abs(iv(-tiny, tiny)), iv(0, tiny)},
		{"Abs of ends in the wrong order", power.Abs(iv(2, -3)), empty},
		{"Abs of a NaN", power.Abs(iv(-3, nan)), empty},
		{"Abs of +Inf", power.Abs(iv(inf, inf)), empty},
		{"Min of a half-line", power.Min(iv(-inf, 3), iv(1, 2)), iv(-inf, 2)},
		{"Min of half-lines", power.Min(iv(1, inf), iv(2, inf)), iv(1, inf)},
		{"Min of unlike half-lines", power.Min(iv(-inf, 5), iv(2, inf)), iv(-inf, 5)},
		{"Max of unlike half-lines", power.Max(iv(-inf, 5), iv(2, inf)), iv(2, inf)},
		{"Max of half-lines below", power.Max(iv(-inf, 5), iv(-inf, 2)), iv(-inf, 5)},
		{"Min of Entire", power.Min(entire, iv(0, 0)), iv(-inf, 0)},
		{"Max of Entire", power.Max(iv(0, 0), entire), iv(0, inf)},
		{"Min of Empty", power.Min(empty, iv(1, 2)), empty},
		{"Min with Empty", power.Min(entire, empty), empty},
		{"Max of a NaN", power.Max(iv(nan, nan), iv(1, 2)), empty},
		{"Max with ends in the wrong order", power.Max(iv(1, 2), iv(4, 3)), empty},
		{"Min of noughts", power.Min(iv(0, 0), iv(signed, signed)), iv(0, 0)},
		{"Max of noughts", power.Max(iv(signed, signed), iv(signed, signed)), iv(0, 0)},
		{"Min of one that lies below", power.Min(iv(1, 2), iv(3, 4)), iv(1, 2)},
		{"Max of one that lies below", power.Max(iv(1, 2), iv(3, 4)), iv(3, 4)},
	})
}

func TestEdgesOfSteps(t *testing.T) {
	const big, tiny, whole = greatest, least, 1<<52 + 1
	checkRows(t, []row{
		{"Sign about 0", power.Sign(iv(-tiny, tiny)), iv(-1, 1)},
		{"Sign of the least", power.Sign(iv(tiny, tiny)), iv(1, 1)},
		{"Sign up to -0", power.Sign(iv(-tiny, signed)), iv(-1, 0)},
		{"Sign of {-0, 0}", power.Sign(iv(signed, 0)), iv(0, 0)},
		{"Sign of Entire", power.Sign(entire), iv(-1, 1)},
		{"Sign of a half-line", power.Sign(iv(-inf, -2)), iv(-1, -1)},
		{"Sign of Empty", power.Sign(empty), empty},
		{"Sign of ends in the wrong order", power.Sign(iv(1, -1)), empty},
		{"Floor of whole numbers", power.Floor(iv(-3, 4)), iv(-3, 4)},
		{"Floor next to whole numbers", power.Floor(iv(below(-3), below(4))), iv(-4, 3)},
		{"Floor about 0", power.Floor(iv(-tiny, tiny)), iv(-1, 0)},
		{"Floor of Empty", power.Floor(empty), empty},
		{"Floor of Entire", power.Floor(entire), entire},
		{"Floor of all that are whole", power.Floor(iv(-big, whole)), iv(-big, whole)},
		{"Ceil about 0", power.Ceil(iv(-tiny, tiny)), iv(0, 1)},
		{"Ceil next to whole numbers", power.Ceil(iv(above(-3), above(4))), iv(-2, 5)},
		{"Ceil of a half-line", power.Ceil(iv(2.5, inf)), iv(3, inf)},
		{"Ceil up to -0", power.Ceil(iv(-0.75, signed)), iv(0, 0)},
		{"Trunc about 0", power.Trunc(iv(-0.75, 0.75)), iv(0, 0)},
		{"Trunc of a half-line", power.Trunc(iv(-inf, -2.5)), iv(-inf, -2)},
		{"Trunc of a NaN", power.Trunc(iv(1, nan)), empty},
		{"RoundEven of halves", power.RoundEven(iv(-3.5, -1.5)), iv(-4, -2)},
		{"RoundEven of other halves", power.RoundEven(iv(-2.5, 4.5)), iv(-2, 4)},
		{"RoundEven of a half about 0", power.RoundEven(iv(-0.5, 0.5)), iv(0, 0)},
		{"RoundEven next to a half", power.RoundEven(iv(below(-0.5), above(0.5))), iv(-1, 1)},
		{"RoundEven of great halves", power.RoundEven(iv(-0x1p51-0.5, 0x1p51+1.5)), iv(-0x1p51, 0x1p51+2)},
		{"RoundAway of halves", power.RoundAway(iv(-1.5, 1.5)), iv(-2, 2)},
		{"RoundAway of a half about 0", power.RoundAway(iv(-0.5, 0.5)), iv(-1, 1)},
		{"RoundAway next to a half", power.RoundAway(iv(above(-0.5), below(0.5))), iv(0, 0)},
		{"RoundAway of great halves", power.RoundAway(iv(-0x1p51-0.5, 0x1p52-0.5)), iv(-0x1p51-1, 0x1p52)},
		{"RoundAway of Entire", power.RoundAway(entire), entire},
		{"RoundAway of -Inf", power.RoundAway(iv(-inf, -inf)), empty},
	})
}

// W1, of one operation: what it makes of elements is held.
func TestElementsAreHeld(t *testing.T) {
	d := dice(7012)
	for range 4000 {
		x, y := d.interval(), d.interval()
		for range 4 {
			p, q := d.element(x), d.element(y)
			for _, f := range unaries() {
				if got, part := f.got(x), f.want(iv(p, p)); !lies(part, got) {
					t.Errorf("%s({%x, %x}) = %x does not hold %x, of %x", f.name, x.Lo, x.Hi, got, part, p)
				}
			}
			if got := power.Min(x, y); !lies(iv(lesser(p, q), lesser(p, q)), got) {
				t.Errorf("Min(%x, %x) = %x does not hold that of %x and %x", x, y, got, p, q)
			}
			if got := power.Max(x, y); !lies(iv(greater(p, q), greater(p, q)), got) {
				t.Errorf("Max(%x, %x) = %x does not hold that of %x and %x", x, y, got, p, q)
			}
		}
	}
}

// The ends of steps are whole numbers or infinite; Floor's lie below those of x by less than 1.
func TestWholeEnds(t *testing.T) {
	eachInterval(7013, func(x api.Interval) {
		x, none := taken(x)
		if none {
			return
		}
		for _, f := range steps() {
			got := f.got(x)
			if math.Trunc(got.Lo) != got.Lo || math.Trunc(got.Hi) != got.Hi {
				t.Errorf("%s({%x, %x}) = %x is not whole", f.name, x.Lo, x.Hi, got)
			}
		}
		floor := power.Floor(x)
		checkBelow(t, floor.Lo, x.Lo)
		checkBelow(t, floor.Hi, x.Hi)
	})
}

func checkBelow(t *testing.T, floor, end float64) {
	t.Helper()
	if math.IsInf(end, 0) {
		if floor != end {
			t.Errorf("Floor of %x: %x", end, floor)
		}
		return
	}
	under := room().Sub(exact(end), exact(floor))
	if under.Sign() < 0 || under.Cmp(exact(1)) >= 0 {
		t.Errorf("Floor of %x: %x", end, floor)
	}
}
