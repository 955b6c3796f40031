package round_test

import (
	"math"
	"testing"

	"verge/api"
	"verge/round"
)

// What is answered of NaN, of infinities and of noughts.

// P3.1: NaN in each place, ahead of all else.
func TestNaN(t *testing.T) {
	others := []float64{0, minus, 1, -1, 0x1p500, least, greatest, inf, -inf, nan}
	quiet := []float64{nan, math.Float64frombits(0xfff8000000000001), math.Float64frombits(0x7ff0000000000001), math.Float64frombits(1<<64 - 1)}
	for _, d := range directions {
		for _, x := range quiet {
			for _, y := range others {
				is(t, round.Add(d, x, y), nan, "Add(%d, NaN, %v)", d, y)
				is(t, round.Add(d, y, x), nan, "Add(%d, %v, NaN)", d, y)
				is(t, round.Sub(d, x, y), nan, "Sub(%d, NaN, %v)", d, y)
				is(t, round.Sub(d, y, x), nan, "Sub(%d, %v, NaN)", d, y)
				is(t, round.Mul(d, x, y), nan, "Mul(%d, NaN, %v)", d, y)
				is(t, round.Mul(d, y, x), nan, "Mul(%d, %v, NaN)", d, y)
				is(t, round.Div(d, x, y), nan, "Div(%d, NaN, %v)", d, y)
				is(t, round.Div(d, y, x), nan, "Div(%d, %v, NaN)", d, y)
				for _, z := range others {
					is(t, round.FMA(d, x, y, z), nan, "FMA(%d, NaN, %v, %v)", d, y, z)
					is(t, round.FMA(d, y, x, z), nan, "FMA(%d, %v, NaN, %v)", d, y, z)
					is(t, round.FMA(d, y, z, x), nan, "FMA(%d, %v, %v, NaN)", d, y, z)
				}
			}
			for _, n := range []int{minInt, -1025, -1024, -2, -1, 0, 1, 2, 3, 1024, 1025, maxInt} {
				is(t, round.Pow(d, x, n), nan, "Pow(%d, NaN, %d)", d, n)
				is(t, round.Root(d, x, n), nan, "Root(%d, NaN, %d)", d, n)
			}
			is(t, round.Sqrt(d, x), nan, "Sqrt(%d, NaN)", d)
			is(t, float64(round.Narrow(d, x)), nan, "Narrow(%d, NaN)", d)
		}
	}
}

func numbersAbove0() []float64 {
	return []float64{least, 0x1p-1022, 0x1p-500, 0.1, 1, 3, 0x1p500, greatest}
}

// P3.2
func TestSumsOfInfinities(t *testing.T) {
	for _, d := range directions {
		for _, c := range []struct{ x, y, sum float64 }{{inf, inf, inf}, {-inf, -inf, -inf}, {inf, -inf, nan}, {-inf, inf, nan}, {inf, 0, inf}, {-inf, 0, -inf}, {inf, minus, inf}, {minus, -inf, -inf}} {
			is(t, round.Add(d, c.x, c.y), c.sum, "Add(%d, %v, %v)", d, c.x, c.y)
			is(t, round.Add(d, c.y, c.x), c.sum, "Add(%d, %v, %v)", d, c.y, c.x)
			is(t, round.Sub(d, c.x, -c.y), c.sum, "Sub(%d, %v, %v)", d, c.x, -c.y)
		}
		for _, y := range numbersAbove0() {
			for _, x := range []float64{inf, -inf} {
				is(t, round.Add(d, x, y), x, "Add(%d, %v, %v)", d, x, y)
				is(t, round.Add(d, -y, x), x, "Add(%d, %v, %v)", d, -y, x)
				is(t, round.Sub(d, x, y), x, "Sub(%d, %v, %v)", d, x, y)
				is(t, round.Sub(d, y, x), -x, "Sub(%d, %v, %v)", d, y, x)
			}
		}
	}
}

// P3.3, P3.4
func TestProductsAndQuotientsOfInfinities(t *testing.T) {
	for _, d := range directions {
		for _, x := range []float64{inf, -inf} {
			for _, y := range append(numbersAbove0(), inf) {
				is(t, round.Mul(d, x, y), x, "Mul(%d, %v, %v)", d, x, y)
				is(t, round.Mul(d, y, x), x, "Mul(%d, %v, %v)", d, y, x)
				is(t, round.Mul(d, x, -y), -x, "Mul(%d, %v, %v)", d, x, -y)
				is(t, round.Mul(d, -y, x), -x, "Mul(%d, %v, %v)", d, -y, x)
			}
			for _, nought := range []float64{0, minus} {
				is(t, round.Mul(d, x, nought), nan, "Mul(%d, %v, %v)", d, x, nought)
				is(t, round.Mul(d, nought, x), nan, "Mul(%d, %v, %v)", d, nought, x)
				is(t, round.Div(d, x, nought), x, "Div(%d, %v, %v)", d, x, nought)
				is(t, round.Div(d, nought, x), 0, "Div(%d, %v, %v)", d, nought, x)
			}
			for _, y := range numbersAbove0() {
				is(t, round.Div(d, x, y), x, "Div(%d, %v, %v)", d, x, y)
				is(t, round.Div(d, x, -y), -x, "Div(%d, %v, %v)", d, x, -y)
				is(t, round.Div(d, y, x), 0, "Div(%d, %v, %v)", d, y, x)
				is(t, round.Div(d, -y, x), 0, "Div(%d, %v, %v)", d, -y, x)
			}
			is(t, round.Div(d, x, inf), nan, "Div(%d, %v, +Inf)", d, x)
			is(t, round.Div(d, x, -inf), nan, "Div(%d, %v, -Inf)", d, x)
		}
	}
}

// P3.2 to P3.4: noughts in each place; none is answered as -0.
func TestNoughts(t *testing.T) {
	for _, d := range directions {
		for _, nought := range []float64{0, minus} {
			for _, other := range []float64{0, minus} {
				is(t, round.Add(d, nought, other), 0, "Add(%d, %v, %v)", d, nought, other)
				is(t, round.Sub(d, nought, other), 0, "Sub(%d, %v, %v)", d, nought, other)
				is(t, round.Mul(d, nought, other), 0, "Mul(%d, %v, %v)", d, nought, other)
				is(t, round.Div(d, nought, other), nan, "Div(%d, %v, %v)", d, nought, other)
				is(t, round.FMA(d, nought, 5, other), 0, "FMA(%d, %v, 5, %v)", d, nought, other)
				is(t, round.FMA(d, nought, -greatest, other), 0, "FMA(%d, %v, -g, %v)", d, nought, other)
				is(t, round.FMA(d, nought, other, nought), 0, "FMA(%d, %v, %v, %v)", d, nought, other, nought)
			}
			for _, y := range numbersAbove0() {
				is(t, round.Add(d, nought, y), y, "Add(%d, %v, %v)", d, nought, y)
				is(t, round.Add(d, -y, nought), -y, "Add(%d, %v, %v)", d, -y, nought)
				is(t, round.Add(d, y, -y), 0, "Add(%d, %v, %v)", d, y, -y)
				is(t, round.Sub(d, y, y), 0, "Sub(%d, %v, %v)", d, y, y)
				is(t, round.Mul(d, nought, y), 0, "Mul(%d, %v, %v)", d, nought, y)
				is(t, round.Mul(d, -y, nought), 0, "Mul(%d, %v, %v)", d, -y, nought)
				is(t, round.Div(d, y, nought), inf, "Div(%d, %v, %v)", d, y, nought)
				is(t, round.Div(d, -y, nought), -inf, "Div(%d, %v, %v)", d, -y, nought)
				is(t, round.Div(d, nought, y), 0, "Div(%d, %v, %v)", d, nought, y)
				is(t, round.Div(d, nought, -y), 0, "Div(%d, %v, %v)", d, nought, -y)
				is(t, round.FMA(d, 1, y, -y), 0, "FMA(%d, 1, %v, %v)", d, y, -y)
			}
		}
		is(t, round.Mul(d, least, -0.25), []float64{-least, 0, 0}[slot(d)], "Mul(%d, t, -1/4)", d)
		is(t, round.Div(d, -least, 4), []float64{-least, 0, 0}[slot(d)], "Div(%d, -t, 4)", d)
		is(t, round.FMA(d, least, -0.25, 0), []float64{-least, 0, 0}[slot(d)], "FMA(%d, t, -1/4, 0)", d)
	}
}

// P3.5
func TestSquareRootsOfOthers(t *testing.T) {
	for _, d := range directions {
		for _, x := range append(numbersAbove0(), inf) {
			is(t, round.Sqrt(d, -x), nan, "Sqrt(%d, %v)", d, -x)
		}
		is(t, round.Sqrt(d, inf), inf, "Sqrt(%d, +Inf)", d)
		is(t, round.Sqrt(d, 0), 0, "Sqrt(%d, 0)", d)
		is(t, round.Sqrt(d, minus), 0, "Sqrt(%d, -0)", d)
	}
}

// P3.6
func TestFusedOfInfinities(t *testing.T) {
	for _, d := range directions {
		for _, x := range []float64{inf, -inf} {
			for _, z := range []float64{0, minus, 1, -greatest, inf, -inf} {
				for _, nought := range []float64{0, minus} {
					is(t, round.FMA(d, x, nought, z), nan, "FMA(%d, %v, %v, %v)", d, x, nought, z)
					is(t, round.FMA(d, nought, x, z), nan, "FMA(%d, %v, %v, %v)", d, nought, x, z)
				}
			}
			for _, y := range append(numbersAbove0(), inf) {
				for _, z := range []float64{0, minus, 1, -1, least, greatest, -greatest, x} {
					is(t, round.FMA(d, x, y, z), x, "FMA(%d, %v, %v, %v)", d, x, y, z)
					is(t, round.FMA(d, -y, -x, z), x, "FMA(%d, %v, %v, %v)", d, -y, -x, z)
				}
				is(t, round.FMA(d, x, y, -x), nan, "FMA(%d, %v, %v, %v)", d, x, y, -x)
				is(t, round.FMA(d, y, x, -x), nan, "FMA(%d, %v, %v, %v)", d, y, x, -x)
				is(t, round.FMA(d, -y, x, x), nan, "FMA(%d, %v, %v, %v)", d, -y, x, x)
			}
			for _, y := range append(numbersAbove0(), 0, minus) { // a product of numbers is none too great
				is(t, round.FMA(d, y, greatest, x), x, "FMA(%d, %v, g, %v)", d, y, x)
				is(t, round.FMA(d, greatest, -y, x), x, "FMA(%d, g, %v, %v)", d, -y, x)
			}
		}
	}
}

// P3.7
func TestPowersOfOthers(t *testing.T) {
	for _, d := range directions {
		for _, x := range []float64{0, minus, inf, -inf, 1, -1, 0.3, least, -greatest} {
			for _, n := range []int{minInt, minInt + 1, -api.MaxPow - 1, api.MaxPow + 1, maxInt} {
				is(t, round.Pow(d, x, n), nan, "Pow(%d, %v, %d)", d, x, n)
			}
			is(t, round.Pow(d, x, 0), 1, "Pow(%d, %v, 0)", d, x)
		}
		for _, n := range []int{1, 2, 3, 4, 5, 6, 1023, 1024} {
			odd := []float64{inf, -inf}[n%2]
			is(t, round.Pow(d, inf, n), inf, "Pow(%d, +Inf, %d)", d, n)
			is(t, round.Pow(d, -inf, n), odd, "Pow(%d, -Inf, %d)", d, n)
			is(t, round.Pow(d, inf, -n), 0, "Pow(%d, +Inf, %d)", d, -n)
			is(t, round.Pow(d, -inf, -n), 0, "Pow(%d, -Inf, %d)", d, -n)
			for _, nought := range []float64{0, minus} {
				is(t, round.Pow(d, nought, n), 0, "Pow(%d, %v, %d)", d, nought, n)
				is(t, round.Pow(d, nought, -n), inf, "Pow(%d, %v, %d)", d, nought, -n)
			}
		}
	}
}

// P3.8
func TestRootsOfOthers(t *testing.T) {
	for _, d := range directions {
		for _, x := range []float64{0, minus, inf, -inf, 1, -1, 0.3, least, -greatest} {
			for _, n := range []int{minInt, -api.MaxPow, -3, -2, -1, 0, api.MaxPow + 1, api.MaxPow + 2, maxInt} {
				is(t, round.Root(d, x, n), nan, "Root(%d, %v, %d)", d, x, n)
			}
		}
		for _, n := range []int{1, 2, 3, 4, 5, 6, 1023, 1024} {
			is(t, round.Root(d, 0, n), 0, "Root(%d, 0, %d)", d, n)
			is(t, round.Root(d, minus, n), 0, "Root(%d, -0, %d)", d, n)
			is(t, round.Root(d, inf, n), inf, "Root(%d, +Inf, %d)", d, n)
			is(t, round.Root(d, -inf, n), []float64{nan, -inf}[n%2], "Root(%d, -Inf, %d)", d, n)
			for _, x := range numbersAbove0() {
				if n%2 == 0 {
					is(t, round.Root(d, -x, n), nan, "Root(%d, %v, %d)", d, -x, n)
				}
			}
		}
	}
}
