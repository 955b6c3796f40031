package rev_test

import (
	"testing"

	"verge/api"
	"verge/ival"
	"verge/rev"
)

// P10.1, the calls of two and three, at edges that are written out.

const (
	third, overThird = 0x1.5555555555555p-2, 0x1.5555555555556p-2 // the numbers about 1/3
	e                = 0x1p-52
	g                = greatest
)

func TestSums(t *testing.T) {
	checkRows(t, []row{
		{"v + 0.1 = 1", rev.AddRev(at(0.1), at(1), entire), iv(0x1.cccccccccccccp-1, 0x1.ccccccccccccdp-1)},
		{"v + 0.1 = 1 from the upper number on", rev.AddRev(at(0.1), at(1), iv(0x1.ccccccccccccdp-1, 1)), empty},
		{"v + 0.1 = 1 up to the lower number", rev.AddRev(at(0.1), at(1), iv(0, 0x1.cccccccccccccp-1)), empty},
		{"v + 0.1 = 1 between the two", rev.AddRev(at(0.1), at(1), iv(0x1.cccccccccccccp-1, 0x1.ccccccccccccdp-1)), iv(0x1.cccccccccccccp-1, 0x1.ccccccccccccdp-1)},
		{"v + 1 = 3 at 2", rev.AddRev(at(1), at(3), at(2)), at(2)},
		{"v + 1 = 3 from 2 on", rev.AddRev(at(1), at(3), iv(2, 9)), at(2)},
		{"v + 1 = 3 beside 2", rev.AddRev(at(1), at(3), at(above(2))), empty},
		{"v - t = 1 up to 1", rev.SubRev1(at(least), at(1), iv(0, 1)), empty},
		{"v - t = 1 from 1 on", rev.SubRev1(at(least), at(1), iv(1, 2)), iv(1, 1+e)},
		{"t - v = 1 from -1 on", rev.SubRev2(at(least), at(1), iv(-1, 0)), iv(-1, -1+e/2)},
		{"t - v = 1 up to -1", rev.SubRev2(at(least), at(1), iv(-2, -1)), empty},
		{"v + g = -g", rev.AddRev(at(g), at(-g), entire), iv(-inf, -g)},
		{"v + g = -g from -g on", rev.AddRev(at(g), at(-g), iv(-g, 0)), empty},
		{"v - g = g", rev.SubRev1(at(g), at(g), entire), iv(g, inf)},
		{"v - g = g up to g", rev.SubRev1(at(g), at(g), iv(-g, g)), empty},
		{"v + q = 1, any q", rev.AddRev(entire, at(1), iv(2, 3)), iv(2, 3)},
		{"v + 1 = c, any c", rev.AddRev(at(1), entire, iv(2, 3)), iv(2, 3)},
		{"v + q = 1, q from 0 on", rev.AddRev(iv(0, inf), at(1), entire), iv(-inf, 1)},
		{"v + q = 1, q up to 0", rev.AddRev(iv(-inf, 0), at(1), entire), iv(1, inf)},
		{"v + q from 2 on, q from 0 to 1", rev.AddRev(iv(0, 1), iv(2, inf), entire), iv(1, inf)},
		{"v + q = 1 at -0", rev.AddRev(at(signed), at(signed), at(signed)), at(0)},
	})
}

// Unbounded factors: a product with them is never 0, however near v comes to it.
func TestUnboundedFactors(t *testing.T) {
	checkRows(t, []row{
		{"v q = 1, q up to -1, v from 0 on", rev.MulRev(iv(-inf, -1), at(1), iv(0, 5)), empty},
		{"v q = 1, q up to -1, v up to 0", rev.MulRev(iv(-inf, -1), at(1), iv(-5, 0)), iv(-1, 0)},
		{"v q = -1, q from 1 on, v from 0 on", rev.MulRev(iv(1, inf), at(-1), iv(0, 5)), empty},
		{"v q = 1, any q, v = 0", rev.MulRev(entire, at(1), at(0)), empty},
		{"v q = 1, any q, v from 0 on", rev.MulRev(entire, at(1), iv(0, 5)), iv(0, 5)},
		{"v q = 1, any q, v about 0", rev.MulRev(entire, at(1), iv(-1, 1)), iv(-1, 1)},
		{"v q = 0, any q, v = 0", rev.MulRev(entire, at(0), at(0)), at(0)},
		{"v q = t, q from g on", rev.MulRev(iv(g, inf), at(least), entire), iv(0, least)},
		{"v q = t, q from g on, v up to 0", rev.MulRev(iv(g, inf), at(least), iv(-1, 0)), empty},
		{"v q from 0 to 1, q from 1 on, v up to 0", rev.MulRev(iv(1, inf), iv(0, 1), iv(-5, 0)), at(0)},
		{"v q from t to 1, q from 1 on, v up to 0", rev.MulRev(iv(1, inf), iv(least, 1), iv(-5, 0)), empty},
		{"v q + 1 = 2, q from 1 on, v up to 0", rev.FMARev(iv(1, inf), at(1), at(2), iv(-1, 0)), empty},
		{"v q + 2 = 2, q from 1 on, v up to 0", rev.FMARev(iv(1, inf), at(2), at(2), iv(-1, 0)), at(0)},
		{"q / v = c from 1 on, v up to 0", rev.DivRev2(at(1), iv(1, inf), iv(-1, 0)), empty},
		{"q / v = 1, any q, v = 0", rev.DivRev2(entire, at(1), at(0)), empty},
		{"q / v = 1, any q, v from 0 on", rev.DivRev2(entire, at(1), iv(0, 1)), iv(0, 1)},
		{"v / q = 0, q from 1 on", rev.DivRev1(iv(1, inf), at(0), entire), at(0)},
		{"v / q = 1, any q, v = 0", rev.DivRev1(entire, at(1), at(0)), empty},
		{"1 / v from 2 on, v up to 0", rev.RecipRev(iv(2, inf), iv(-1, 0)), empty},
		{"1 / v any, v = 0", rev.RecipRev(entire, at(0)), empty},
		{"1 / v any, v up to 0", rev.RecipRev(entire, iv(-1, 0)), iv(-1, 0)},
		{"1 / v = 0", rev.RecipRev(at(0), entire), empty},
		{"1 / v from 0 to t", rev.RecipRev(iv(0, least), entire), iv(g, inf)},
		{"1 / v = t up to g", rev.RecipRev(at(least), iv(0, g)), empty},
		{"1 / v = g", rev.RecipRev(at(g), entire), iv(0x1p-1024, 0x1p-1024+least)},
		{"1 / v from g on, v up to 0", rev.RecipRev(iv(g, inf), iv(-1, 0)), empty},
	})
}

// A divisor that is 0, or may be: nothing is divided by it.
func TestDivisorsThatMayBeNought(t *testing.T) {
	checkRows(t, []row{
		{"v / 0 = 0", rev.DivRev1(at(0), at(0), at(0)), empty},
		{"v / 0 = 0, -0", rev.DivRev1(at(signed), at(signed), at(signed)), empty},
		{"v / q = 0, q from 0 to 1", rev.DivRev1(iv(0, 1), at(0), entire), at(0)},
		{"v / q = 1, q from 0 to 1", rev.DivRev1(iv(0, 1), at(1), entire), iv(0, 1)},
		{"v / q = 1, q from 0 to 1, v = 0", rev.DivRev1(iv(0, 1), at(1), at(0)), empty},
		{"v / q = 1, q from -1 to 0, v from 0 on", rev.DivRev1(iv(-1, 0), at(1), iv(0, 1)), empty},
		{"v / q = 1, q from -1 to 1, v = 0", rev.DivRev1(iv(-1, 1), at(1), at(0)), empty},
		{"v / q = 1, q from -1 to 1, v about 0", rev.DivRev1(iv(-1, 1), at(1), iv(-2, 2)), iv(-1, 1)},
		{"v / q = 0 or 1, q from -1 to 1, v = 0", rev.DivRev1(iv(-1, 1), iv(0, 1), at(0)), at(0)},
		{"v / q = t, q from 0 to t", rev.DivRev1(iv(0, least), at(least), entire), iv(0, least)},
		{"v / q = t, q = t, v up to 0", rev.DivRev1(at(least), at(least), iv(-1, 0)), empty},
		{"v / q = t, q = t, v from t on", rev.DivRev1(at(least), at(least), iv(least, 1)), empty},
		{"q / v = 0, q = 0", rev.DivRev2(at(0), at(0), entire), entire},
		{"q / v = 0, q = 0, v = 0", rev.DivRev2(at(0), at(0), at(0)), empty},
		{"q / v = 0, q = 0, v up to 0", rev.DivRev2(at(0), at(0), iv(-1, 0)), iv(-1, 0)},
		{"q / v = 1, q = 0", rev.DivRev2(at(0), at(1), entire), empty},
		{"q / v = 0, q = 1", rev.DivRev2(at(1), at(0), entire), empty},
		{"q / v = 1, q from 0 to 1", rev.DivRev2(iv(0, 1), at(1), entire), iv(0, 1)},
		{"q / v = 1, q from 0 to 1, v up to 0", rev.DivRev2(iv(0, 1), at(1), iv(-1, 0)), empty},
		{"q / v = 1, q from -1 to 1, v = 0", rev.DivRev2(iv(-1, 1), at(1), at(0)), empty},
		{"q / v = 1, q from -1 to 1", rev.DivRev2(iv(-1, 1), at(1), entire), iv(-1, 1)},
		{"q / v from -1 to 1, q = 1", rev.DivRev2(at(1), iv(-1, 1), entire), entire},
		{"q / v from -1 to 1, q = 1, v from -0.5 on", rev.DivRev2(at(1), iv(-1, 1), iv(-0.5, inf)), iv(1, inf)},
		{"q / v from -1 to 1, q = 1, v about 0", rev.DivRev2(at(1), iv(-1, 1), iv(-0.5, 0.5)), empty},
		{"q / v from 0 to 2, q = 1", rev.DivRev2(at(1), iv(0, 2), entire), iv(0.5, inf)},
		{"q / v from 0 to 2, q from 0 to 1, v = 0", rev.DivRev2(iv(0, 1), iv(0, 2), at(0)), empty},
		{"q / v = 3, q = 1", rev.DivRev2(at(1), at(3), entire), iv(third, overThird)},
		{"q / v = 3, q = 1, v from the upper number on", rev.DivRev2(at(1), at(3), iv(overThird, 1)), empty},
	})
}

func TestFactors(t *testing.T) {
	checkRows(t, []row{
		{"3 v = 1 up to the lower number", rev.MulRev(at(3), at(1), iv(0, third)), empty},
		{"3 v = 1 from the upper number on", rev.MulRev(at(3), at(1), iv(overThird, 1)), empty},
		{"3 v = 1 between the two", rev.MulRev(at(3), at(1), iv(third, overThird)), iv(third, overThird)},
		{"-3 v = 1", rev.MulRev(at(-3), at(1), entire), iv(-overThird, -third)},
		{"2 v = 1 up to a half", rev.MulRev(at(2), at(1), iv(0, 0.5)), at(0.5)},
		{"v q = 1, q from -2 to 2, v in the gap", rev.MulRev(iv(-2, 2), at(1), iv(-0.25, 0.25)), empty},
		{"v q = 1, q from -2 to 2, v to the gap's ends", rev.MulRev(iv(-2, 2), at(1), iv(-0.5, 0.5)), iv(-0.5, 0.5)},
		{"v q = 1, q from -3 to 3, v to the gap's ends", rev.MulRev(iv(-3, 3), at(1), iv(-third, third)), empty},
		{"v q = 1, q from -3 to 3, v over one end", rev.MulRev(iv(-3, 3), at(1), iv(-third, overThird)), iv(third, overThird)},
		{"v q = 0, q = 0", rev.MulRev(at(0), at(0), iv(3, 4)), iv(3, 4)},
		{"v q = 0, q from 1 to 2", rev.MulRev(iv(1, 2), at(0), iv(-3, 4)), at(0)},
		{"v q = 0, q from 0 to 2", rev.MulRev(iv(0, 2), at(0), iv(-3, 4)), iv(-3, 4)},
		{"v q = 1, q from 0 to 2", rev.MulRev(iv(0, 2), at(1), iv(-3, 4)), iv(0.5, 4)},
		{"v q = 1, q from -2 to 0", rev.MulRev(iv(-2, 0), at(1), iv(-3, 4)), iv(-3, -0.5)},
		{"v q from -1 to 1, q from 2 to 4", rev.MulRev(iv(2, 4), iv(-1, 1), entire), iv(-0.5, 0.5)},
		{"v t = 1", rev.MulRev(at(least), at(1), entire), iv(g, inf)},
		{"v t = 1, v up to g", rev.MulRev(at(least), at(1), iv(-inf, g)), empty},
		{"v g = t", rev.MulRev(at(g), at(least), entire), iv(0, least)},
		{"v g = t, v up to 0", rev.MulRev(at(g), at(least), iv(-1, 0)), empty},
		{"v g = t, v from t on", rev.MulRev(at(g), at(least), iv(least, 1)), empty},
		{"g v = -g up to -1", rev.MulRev(at(g), at(-g), iv(-2, -1)), at(-1)},
	})
}

// What is divided is c less z, of which no number may be left.
func TestFactorsOfSums(t *testing.T) {
	checkRows(t, []row{
		{"2 v + t = 1", rev.FMARev(at(2), at(least), at(1), entire), iv(0.5-e/4, 0.5)},
		{"2 v + t = 1, v from a half on", rev.FMARev(at(2), at(least), at(1), iv(0.5, 1)), empty},
		{"2 v - t = 1, v up to a half", rev.FMARev(at(2), at(-least), at(1), iv(0, 0.5)), empty},
		{"-2 v + t = 1", rev.FMARev(at(-2), at(least), at(1), entire), iv(-0.5, -0.5+e/4)},
		{"2 v + g = -g", rev.FMARev(at(2), at(g), at(-g), entire), at(-g)},
		{"4 v + g = -g", rev.FMARev(at(4), at(g), at(-g), entire), at(-g / 2)},
		{"-4 v - g = g", rev.FMARev(at(-4), at(-g), at(g), entire), at(-g / 2)},
		{"v + g = -g", rev.FMARev(at(1), at(g), at(-g), entire), iv(-inf, -g)},
		{"v q + g = -g, q from 4 on", rev.FMARev(iv(4, inf), at(g), at(-g), entire), iv(-g/2, 0)},
		{"v q + g = -g, q from 4 on, v from 0 on", rev.FMARev(iv(4, inf), at(g), at(-g), iv(0, 1)), empty},
		{"v q - g = g, q from 4 on", rev.FMARev(iv(4, inf), at(-g), at(g), entire), iv(0, g/2)},
		{"v q + g = -g, q from 0 to 4", rev.FMARev(iv(0, 4), at(g), at(-g), entire), iv(-inf, -g/2)},
		{"v q - g = g, q from -4 to 4", rev.FMARev(iv(-4, 4), at(-g), at(g), iv(-g/2, g/2)), iv(-g/2, g/2)},
		{"v q - g = g, q from -4 to 4, in the gap", rev.FMARev(iv(-4, 4), at(-g), at(g), iv(-below(g/2), below(g/2))), empty},
		{"t v + 1 = 1 + e", rev.FMARev(at(least), at(1), at(1+e), entire), iv(0x1p1022, 0x1p1022)},
		{"t v + t = 1, v up to g", rev.FMARev(at(least), at(least), at(1), iv(0, g)), empty},
		{"3 v + t = 2 t", rev.FMARev(at(3), at(least), at(2*least), entire), iv(0, least)},
		{"v q + r = 1, q = 0, r = 1", rev.FMARev(at(0), at(1), at(1), iv(3, 4)), iv(3, 4)},
		{"v q + r = 1, q = 0, r = 2", rev.FMARev(at(0), at(2), at(1), iv(3, 4)), empty},
		{"v q + r = 1, q from -1 to 1, r from 0 to 1", rev.FMARev(iv(-1, 1), iv(0, 1), at(1), iv(3, 4)), iv(3, 4)},
		{"v q + r = 3, q from -1 to 1, r from 0 to 1", rev.FMARev(iv(-1, 1), iv(0, 1), at(3), iv(-1, 4)), iv(2, 4)},
		{"v q + r = 1, q from 2 to 4, r any", rev.FMARev(iv(2, 4), entire, at(1), iv(3, 4)), iv(3, 4)},
		{"v q + r = 1, q from 2 to 4, r from 0 on", rev.FMARev(iv(2, 4), iv(0, inf), at(1), entire), iv(-inf, 0.5)},
		{"v q + r = 1, q from 2 to 4, r up to 0", rev.FMARev(iv(2, 4), iv(-inf, 0), at(1), entire), iv(0.25, inf)},
		{"0 * 5 + v = 1", rev.FMARevAdd(at(0), at(5), at(1), entire), at(1)},
		{"0 * q + v = 1, any q", rev.FMARevAdd(at(0), entire, at(1), iv(0, 9)), at(1)},
		{"q r + v = 1, q from 0 to 1, r from 2 on", rev.FMARevAdd(iv(0, 1), iv(2, inf), at(1), entire), iv(-inf, 1)},
		{"q r + v = 1, q from 0 to 1, r from 2 on, v from 1 on", rev.FMARevAdd(iv(0, 1), iv(2, inf), at(1), iv(1, 2)), at(1)},
		{"(1 + e)(1 - e) + v = 1", rev.FMARevAdd(at(1+e), at(1-e), at(1), entire), at(e * e)},
		{"t t + v = 1, v from 1 on", rev.FMARevAdd(at(least), at(least), at(1), iv(1, 2)), empty},
		{"t t + v = 1, v up to 1", rev.FMARevAdd(at(least), at(least), at(1), iv(0, 1)), iv(1-e/2, 1)},
		{"g g + v = g", rev.FMARevAdd(at(g), at(g), at(g), entire), iv(-inf, -g)},
		{"g g + v = g, v from -g on", rev.FMARevAdd(at(g), at(g), at(g), iv(-g, g)), empty},
		{"q r + v = 1, q from 0 to 1, any r, v = 5", rev.FMARevAdd(iv(0, 1), entire, at(1), at(5)), at(5)},
		{"q r + v = c, q from 1 on, r from -1 to 1, any c, v = 5", rev.FMARevAdd(iv(1, inf), iv(-1, 1), entire, at(5)), at(5)},
	})
}

func TestLesserAndGreater(t *testing.T) {
	checkRows(t, []row{
		{"min(v, q) = 2, q = 2", rev.MinRev(at(2), at(2), entire), iv(2, inf)},
		{"min(v, q) = 2, q = 2, v below", rev.MinRev(at(2), at(2), iv(0, below(2))), empty},
		{"min(v, q) = 2, q = 2, v at 2", rev.MinRev(at(2), at(2), iv(0, 2)), at(2)},
		{"min(v, q) = 2, q below 2", rev.MinRev(iv(1, below(2)), at(2), entire), empty},
		{"min(v, q) = 2, q above 2", rev.MinRev(iv(above(2), 3), at(2), entire), at(2)},
		{"min(v, q) = 1 to 4, q = 2 to 3", rev.MinRev(iv(2, 3), iv(1, 4), iv(0, 9)), iv(1, 9)},
		{"min(v, q) = 2 to 3, q = 1 to 4", rev.MinRev(iv(1, 4), iv(2, 3), iv(0, 9)), iv(2, 9)},
		{"min(v, q) = 1 to 2, q = 2 to 3", rev.MinRev(iv(2, 3), iv(1, 2), iv(0, 9)), iv(1, 9)},
		{"min(v, q) any, q any", rev.MinRev(entire, entire, entire), entire},
		{"min(v, q) any, q = 1", rev.MinRev(at(1), entire, iv(-3, 3)), iv(-3, 3)},
		{"min(v, q) = 1, q any", rev.MinRev(entire, at(1), iv(-3, 3)), iv(1, 3)},
		{"min(v, q) up to 1, q from 2 on", rev.MinRev(iv(2, inf), iv(-inf, 1), iv(-3, 3)), iv(-3, 1)},
		{"max(v, q) = 2, q = 2", rev.MaxRev(at(2), at(2), entire), iv(-inf, 2)},
		{"max(v, q) = 2, q below 2", rev.MaxRev(iv(1, below(2)), at(2), entire), at(2)},
		{"max(v, q) = 2, q above 2", rev.MaxRev(iv(above(2), 3), at(2), entire), empty},
		{"max(v, q) = -0, q = 0", rev.MaxRev(at(0), at(signed), iv(-1, signed)), iv(-1, 0)},
		{"min(v, q) = 0, q = -0", rev.MinRev(at(signed), at(0), iv(signed, 1)), iv(0, 1)},
	})
}

// Empty as each argument, however it is written.
func TestEmptyArguments(t *testing.T) {
	for _, f := range calls() {
		for place := range f.others + 1 {
			for _, none := range []api.Interval{empty, iv(2, 1), iv(nan, 0), iv(0, nan), iv(inf, inf), iv(-inf, -inf)} {
				args := list(f.others+1, ival.Entire)
				args[place] = none
				is(t, f.got(args[1:], args[0]), empty, "%s(%x, %x)", f.name, args[1:], args[0])
			}
		}
	}
}
