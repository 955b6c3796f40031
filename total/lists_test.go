package total_test

import (
	"slices"
	"testing"

	"verge/api"
	"verge/total"
)

// P4.5: whole lists.

// lists tells lists of many lengths and kinds.
func lists() [][]float64 {
	out := [][]float64{nil, {}, {0}, {minus}, {minus, minus}, {nan}, {inf}, {-inf}, {inf, -inf}, {-inf, 1, -inf}, {1, nan, inf}, {0, inf}, {inf, 0},
		{greatest, greatest}, {-greatest, -greatest, 1}, {least, -least}, {1, least, -1}, edges()}
	d := dice(4030)
	for n := range 40 {
		var l []float64
		for range n {
			l = append(l, d.number())
		}
		out = append(out, l)
	}
	return out
}

// roomy tells l with spare room behind it, and a look at all of that room.
func roomy(l []float64) (list, all []float64) {
	all = append(slices.Clone(l), 77, 78, 79)
	return all[:len(l)], all
}

func kept(t *testing.T, what string, l, all []float64) {
	t.Helper()
	for i, x := range append(slices.Clone(l), 77, 78, 79) {
		if !same(all[i], x) {
			t.Errorf("%s changed its list at %d", what, i)
		}
	}
}

func TestWholeLists(t *testing.T) {
	for _, l := range lists() {
		sum, abs, squares := newModel(), newModel(), newModel()
		for _, x := range l {
			sum.take(number(x))
			if x < 0 {
				abs.take(number(-x))
			} else {
				abs.take(number(x))
			}
			squares.take(product(x, x))
		}
		list, all := roomy(l)
		for _, d := range directions {
			is(t, total.Total(d, list), sum.round(d), "Total(%d, %v)", d, l)
			is(t, total.Abs(d, list), abs.round(d), "Abs(%d, %v)", d, l)
			is(t, total.Squares(d, list), squares.round(d), "Squares(%d, %v)", d, l)
		}
		kept(t, "Total, Abs or Squares", l, all)
	}
}

func TestDot(t *testing.T) {
	for _, a := range lists() {
		for _, b := range lists() {
			one, oneAll := roomy(a)
			other, otherAll := roomy(b)
			m, want := newModel(), api.OK
			if len(a) != len(b) {
				want = api.ErrArg
			} else {
				for i := range a {
					m.take(product(a[i], b[i]))
				}
			}
			for _, d := range directions {
				x, err := total.Dot(d, one, other)
				if err != want {
					t.Errorf("Dot of %d and %d elements: error %d, want %d", len(a), len(b), err, want)
				}
				is(t, x, m.round(d), "Dot(%d, %v, %v)", d, a, b)
			}
			kept(t, "Dot", a, oneAll)
			kept(t, "Dot", b, otherAll)
		}
	}
}

func TestListsByHand(t *testing.T) {
	for _, d := range directions {
		is(t, total.Total(d, nil), 0, "Total(%d, nothing)", d)
		is(t, total.Abs(d, []float64{}), 0, "Abs(%d, nothing)", d)
		is(t, total.Squares(d, nil), 0, "Squares(%d, nothing)", d)
		is(t, total.Total(d, []float64{1, 2, -4}), -1, "Total(%d, (1, 2, -4))", d)
		is(t, total.Abs(d, []float64{1, 2, -4}), 7, "Abs(%d, (1, 2, -4))", d)
		is(t, total.Squares(d, []float64{1, 2, -4}), 21, "Squares(%d, (1, 2, -4))", d)
		is(t, total.Abs(d, []float64{inf, -inf}), inf, "Abs(%d, (+Inf, -Inf))", d)
		is(t, total.Abs(d, []float64{-inf, nan}), nan, "Abs(%d, (-Inf, NaN))", d)
		is(t, total.Squares(d, []float64{-inf, 1}), inf, "Squares(%d, (-Inf, 1))", d)
		is(t, total.Total(d, []float64{-inf, 1}), -inf, "Total(%d, (-Inf, 1))", d)
		l := []float64{3, -5, 0.5}
		if x, err := total.Dot(d, l, l); err != api.OK || x != 34.25 {
			t.Errorf("Dot(%d) of a list with itself: %v, %d", d, x, err)
		}
		if x, err := total.Dot(d, []float64{0}, []float64{-inf}); err != api.OK || x == x {
			t.Errorf("Dot(%d, (0), (-Inf)) = %v, %d", d, x, err)
		}
		if x, err := total.Dot(d, []float64{nan}, nil); err != api.ErrArg || !same(x, 0) {
			t.Errorf("Dot(%d, (NaN), nothing) = %v, %d", d, x, err)
		}
		if x, err := total.Dot(d, nil, []float64{inf}); err != api.ErrArg || !same(x, 0) {
			t.Errorf("Dot(%d, nothing, (+Inf)) = %v, %d", d, x, err)
		}
	}
}

// TestLongLists: nothing small is lost beside something great, however much there is of it.
func TestLongLists(t *testing.T) {
	l := []float64{0x1p80}
	for range 1 << 20 {
		l = append(l, 0x1p-10)
	}
	l = append(l, -0x1p80)
	for _, d := range directions {
		is(t, total.Total(d, l), 0x1p10, "Total(%d) of a long list", d)
	}
	is(t, total.Squares(api.Down, l), 0x1p161, "Squares(Down) of a long list")
	is(t, total.Squares(api.Up, l), 0x1.0000000000001p161, "Squares(Up) of a long list")
}
