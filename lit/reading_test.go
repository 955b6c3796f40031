package lit_test

import (
	"math"
	"math/big"
	"strconv"
	"strings"
	"testing"

	"verge/api"
	"verge/lit"
)

// P12.2 and P12.3

// Bounds beyond the greatest number and below the least one, about both, and 0.
func TestBoundsBeyondAllNumbers(t *testing.T) {
	far := []string{"1e308", "1e309", "1e400", "1e9999", "0x1.fffffffffffffp1023", "0x1.fffffffffffff7p1023", "0x1.fffffffffffff8p1023", "0x1p1024", "0x1p9999", "5e-324", "4.9e-324", "1e-324", "1e-400", "1e-9999", "0x1p-1074", "0x1p-1075", "0x1p-1076", "0x1p-9999", "0", "0e9999", "1" + strings.Repeat("0", 310), "." + strings.Repeat("0", 330) + "1", "1/1" + strings.Repeat("0", 400), "1" + strings.Repeat("0", 400) + "/3"}
	for _, a := range far {
		each(t, "["+a+"]", "[-"+a+"]", "["+a+",]", "[-"+a+",]", "[,"+a+"]", "[,-"+a+"]")
		for _, b := range far {
			each(t, "["+a+","+b+"]", "[-"+a+","+b+"]", "["+a+",-"+b+"]", "[-"+a+",-"+b+"]")
		}
	}
	reads(t, "[-1e-400]", iv(-least, 0))
	reads(t, "[1e308, 1e309]", iv(below(1e308), inf))
	reads(t, "[-1e401, -1e400]", iv(-inf, -greatest))
	readsDeco(t, "[-1e401, -1e400]", dv(-inf, -greatest, api.Dac))
}

func TestMissingBounds(t *testing.T) {
	for _, low := range []string{"", "-inf", "-INFINITY", "-Infinity", "-1.5"} {
		for _, high := range []string{"", "inf", "+inf", "Infinity", "+INFINITY", "2.5"} {
			want := iv(-inf, inf)
			if low == "-1.5" {
				want.Lo = -1.5
			}
			if high == "2.5" {
				want.Hi = 2.5
			}
			for _, s := range []string{"[" + low + "," + high + "]", "[ \t" + low + "\n,\r " + high + "  ]"} {
				reads(t, s, want)
				asExpected(t, s)
			}
		}
	}
}

// The numbers 0 to 30 with a point at every place, each radius, direction and exponent.
func TestUncertain(t *testing.T) {
	for _, middle := range []string{"0", "1", "5", "10", "25", "005", "99", "100", "0.0", ".0", "0.", ".5", "5.", "2.5", ".25", "25.", "02.50", "9.9", ".001"} {
		for _, sign := range []string{"", "+", "-"} {
			for _, radius := range []string{"", "0", "1", "5", "10", "25", "007", "100", "2500", "?"} {
				for _, direction := range []string{"", "u", "d"} {
					for _, exp := range []string{"", "e0", "e1", "e+2", "e-1", "E-03", "e300", "e309", "e-322", "e-330"} {
						asExpected(t, sign+middle+"?"+radius+direction+exp)
					}
				}
			}
		}
	}
}

func TestUncertainByHand(t *testing.T) {
	for _, row := range []struct {
		s    string
		want api.Interval
	}{
		{"-3.5?5", iv(-4, -3)}, {"-3.5?5u", iv(-3.5, -3)}, {"-3.5?5d", iv(-4, -3.5)}, {"2?5", iv(-3, 7)}, {"-2?5", iv(-7, 3)}, {"0?", iv(-0.5, 0.5)}, {"-0?", iv(-0.5, 0.5)}, {"-0?u", iv(0, 0.5)}, {"-0?d", iv(-0.5, 0)}, {"0?0", iv(0, 0)}, {"-0?0", iv(0, 0)}, {"0?0u", iv(0, 0)}, {"1.?", iv(0.5, 1.5)}, {"1.0?0", iv(1, 1)}, {"5?5d", iv(0, 5)}, {"-5?5u", iv(-5, 0)},
		{"1.5?25e1", iv(-10, 40)}, {"0.25?25e2", iv(0, 50)}, {"8??u", iv(8, inf)}, {"-8??d", iv(-inf, -8)}, {"8??", entire}, {"8??ue9999", iv(greatest, inf)}, {"8??de9999", iv(-inf, inf)}, {"-8??ue9999", iv(-inf, inf)}, {"8??de-9999", iv(-inf, least)}, {"0??u", iv(0, inf)}, {"0??d", iv(-inf, 0)},
		{"1?e9999", iv(greatest, inf)}, {"-1?e9999", iv(-inf, -greatest)}, {"0?e9999", iv(-inf, inf)}, {"0?0e9999", iv(0, 0)}, {"1?1e9999", iv(0, inf)}, {"1?1e-9999", iv(0, least)}, {"1?2e-9999", iv(-least, least)}, {"0?ue-9999", iv(0, least)}, {"0?de-9999", iv(-least, 0)},
	} {
		reads(t, row.s, row.want)
		asExpected(t, row.s)
	}
}

func meant(s string) api.Interval { return expect(s, false).x.X }

// many digits that look like chance.
func (d *dice) digits(n int) string {
	b := make([]byte, n)
	for i := range b {
		b[i] = byte('0' + d.below(10))
	}
	return string(b)
}

// Long digits, up to the longest text.
func TestUncertainOfLongDigits(t *testing.T) {
	d := dice(12010)
	for _, n := range []int{19, 20, 100, 766, 767, 768, 799, 800, 801, 802, 1099, 1100, 1101, 2000, 4000} {
		for _, digits := range []string{d.digits(n), "1" + strings.Repeat("0", n-1), strings.Repeat("9", n), strings.Repeat("0", n-1) + "7", "1" + strings.Repeat("0", n-2) + "1"} {
			radius := d.digits(min(n, 4095-n-10))
			down := "e-" + strconv.Itoa(n)
			each(t, digits+"?", "-"+digits+"?"+down, digits+"?5"+down, digits+"?0"+down, "."+digits+"?u", "-"+digits[:1]+"."+digits[1:]+"?d", digits+"?"+radius+down, "-"+digits+"?"+radius+"u"+down, "1?"+digits+down, digits+"??d"+down, digits+"?e-9999", "-."+digits+"?7e9999")
		}
	}
}

// Texts of 4096 bytes whose bounds, written out, would have more, or an exponent that is too great.
func TestUncertainOfTheLongestTexts(t *testing.T) {
	d := dice(12011)
	full := func(head, tail string) {
		for _, digits := range []string{strings.Repeat("0", 4096), strings.Repeat("9", 4096), "1" + strings.Repeat("0", 4095), d.digits(4096)} {
			s := head + digits[:4096-len(head)-len(tail)] + tail
			asExpected(t, s)
			refused(t, "0"+s, 4096, api.ErrLong)
		}
	}
	for _, tail := range []string{"?", "?u", "?d", "??u", "?1", "?e-4000", "?e-4100", "?e-9999", "?e9999", "?de-4100", "?9e-4090", "?e-9"} {
		for _, head := range []string{"", "-", ".", "-.", "0.", "5."} {
			full(head, tail)
		}
	}
	for _, head := range []string{"0?", "1?", "-1?", ".5?", "-.05?"} {
		for _, tail := range []string{"", "u", "d", "e-4000", "e-4094", "ue-4094", "e-9999"} {
			full(head, tail)
		}
	}
}

// padded tells all digits of a number, n of them, and the power of 10 that they are times.
func padded(x float64, n int) (digits string, exp int) {
	r := new(big.Rat).SetFloat64(x)
	all := r.Mul(r, power(10, 1074)).Num().String()
	if len(all) > n {
		panic("too many digits")
	}
	return all + strings.Repeat("0", n-len(all)), len(all) - n - 1074
}

// A hair, far behind all digits that a number may have, to either side of a number.
func TestUncertainHairs(t *testing.T) {
	d := dice(12012)
	numbers := []float64{1, 0.1, 0x1p-1022, below(0x1p-1021), below(0x1p-1022), least, 3 * least, greatest, below(greatest), math.Pi, 1e-300, 0x1p-537}
	for range 20 {
		numbers = append(numbers, math.Abs(d.number())+least)
	}
	for _, x := range numbers {
		for _, n := range []int{1500, 4080} {
			digits, exp := padded(x, n)
			e := "e" + strconv.Itoa(exp)
			next := digits[:n-1] + "1"
			reads(t, digits+"?0"+e, iv(x, x))
			reads(t, digits+"?"+e, iv(below(x), above(x)))
			reads(t, digits+"?1"+e, iv(below(x), above(x)))
			reads(t, digits+"?u"+e, iv(x, above(x)))
			reads(t, digits+"?d"+e, iv(below(x), x))
			reads(t, next+"?0"+e, iv(x, above(x)))
			reads(t, next+"?1d"+e, iv(x, above(x)))
			reads(t, "-"+next+"?0"+e, iv(-above(x), -x))
			reads(t, "-"+digits+"?"+e, iv(-above(x), 0-below(x)))
		}
	}
}

// Numbers, what lies between two of them, and what lies next to that, as bounds.
func TestBoundsAboutNumbers(t *testing.T) {
	d := dice(12013)
	for range 300 {
		x := d.number()
		for _, n := range []int{1, 5, 16, 17, 18, 30} {
			s := strconv.FormatFloat(x, 'e', n-1, 64)
			each(t, "["+s+"]", "["+s+",]", "[,"+s+"]")
			mantissa, exp, _ := strings.Cut(s, "e")
			each(t, mantissa+"?e"+exp, mantissa+"?1e"+exp, mantissa+"?3ue"+exp)
		}
	}
}

// What is read of a text is the same whatever stands in memory about it.
func TestPartOfAText(t *testing.T) {
	around := "12[3, 4]_com56?7"
	reads(t, around[2:8], iv(3, 4))
	readsDeco(t, around[2:12], dv(3, 4, api.Com))
	reads(t, around[12:15], iv(55.5, 56.5))
	if x, at, e := lit.Read(around[2:7]); e != api.ErrLit || at != 5 || x != (api.Interval{}) {
		t.Errorf("%v, %d, %d", x, at, e)
	}
}

// Without a word: the strongest decoration that the interval may have; with one: that one.
func TestDecorationsRead(t *testing.T) {
	for _, body := range []string{"[1,2]", "[0]", "3?", "[-0]", "[0.1]", "[1e308]"} {
		bare := meant(body)
		readsDeco(t, body, api.Deco{X: bare, D: api.Com})
		readsDeco(t, body+"_com", api.Deco{X: bare, D: api.Com})
		readsDeco(t, body+"_dac", api.Deco{X: bare, D: api.Dac})
		readsDeco(t, body+"_def", api.Deco{X: bare, D: api.Def})
		readsDeco(t, body+"_trv", api.Deco{X: bare, D: api.Trv})
	}
	for _, body := range []string{"[1,]", "[,1]", "[entire]", "[1e309]", "3??", "3?1e308"} {
		bare := meant(body)
		readsDeco(t, body, api.Deco{X: bare, D: api.Dac})
		readsDeco(t, body+"_dac", api.Deco{X: bare, D: api.Dac})
		readsDeco(t, body+"_def", api.Deco{X: bare, D: api.Def})
		readsDeco(t, body+"_trv", api.Deco{X: bare, D: api.Trv})
	}
	for _, body := range []string{"[]", "[empty]", "[ ]"} {
		readsDeco(t, body, api.Deco{X: empty, D: api.Trv})
		readsDeco(t, body+"_trv", api.Deco{X: empty, D: api.Trv})
	}
	for _, s := range []string{"[nai]", "[NAI]", "[ nAi\t]", "[\r\nnai ]"} {
		readsDeco(t, s, nai)
	}
}
