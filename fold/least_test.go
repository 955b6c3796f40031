package fold_test

import (
	"math"
	"slices"
	"testing"

	"verge/api"
)

// P15.2: the least interval.

// someCrews are numbers of workers for what is tried at many lists.
func someCrews() []int { return []int{1, 2, 3, 7, 16} }

func TestAllListsOfFewEnds(t *testing.T) {
	l := all(-inf, -greatest, -1.5, -least, 0, signed, least, 1, greatest, inf)
	for _, x := range l {
		for _, y := range l {
			checkAll(t, list{x}, list{y}, 1, 16)
			checkAll(t, list{x, y}, list{y, x}, 3)
		}
	}
	few := all(-inf, -3, -least, 0, 1, inf)
	for _, x := range few {
		for _, y := range few {
			for _, z := range few {
				checkAll(t, list{x, y, z}, list{y, z, z}, 2)
			}
		}
	}
}

func TestListsByChance(t *testing.T) {
	d := dice(15020)
	for run := range 600 {
		n := d.below(12)
		tell := pick(&d, d.interval, d.bounded, d.point, d.near, d.wild)
		a, b := d.list(n, tell), d.list(n, pick(&d, d.interval, d.bounded, d.point, d.near))
		checkAll(t, a, b, 1+run%16, 16-run%16)
		c := d.cancelled(n)
		checkAll(t, c, d.list(len(c), d.point), 1+run%16)
	}
}

// Lists of all lengths about those at which the work may be parted, with each number of workers.
func TestLengths(t *testing.T) {
	d := dice(15021)
	for n := range 70 {
		checkAll(t, d.list(n, d.interval), d.list(n, d.interval), everyCrew()...)
	}
	for _, n := range []int{127, 128, 129, 255, 256, 257, 258, 511, 512, 513, 767, 768, 769, 1023, 1024, 1025} {
		checkAll(t, d.list(n, d.bounded), d.list(n, d.bounded), everyCrew()...)
	}
	for _, n := range []int{4095, 4096, 4097, 5000} {
		checkAll(t, d.list(n, d.bounded), d.list(n, d.interval), 1, 2, 5, 15, 16)
	}
}

// Each place counts, and counts once: parts of 1 and 2 and so on, in the two ends in unlike ways.
func TestEachPlaceCountsOnce(t *testing.T) {
	var l, ones list
	for n := range 1400 {
		up, down := float64(n*(n+1)/2), -float64(n*(n-1)/2)
		for _, w := range []int{1, 2, 1 + n%16, 16} {
			for _, c := range calls() {
				if c.name == "Sum" || c.both() {
					x, err := c.ask(l, ones, w)
					if !same(x, iv(down+0, up)) || err != api.OK {
						t.Fatalf("%s of %d parts, %d workers: %v, %d", c.name, n, w, x, err)
					}
				}
			}
		}
		l, ones = append(l, iv(-float64(n), float64(n+1))), append(ones, pt(1))
	}
}

// A part that has no bound, or is Empty, is seen wherever it stands.
func TestOneAmongMany(t *testing.T) {
	d := dice(15022)
	for _, n := range []int{1, 2, 3, 5, 17, 64, 257, 600} {
		a, b := d.list(n, d.point), d.list(n, d.point)
		places := []int{0, n / 2, n - 1, d.below(n)}
		if n < 10 {
			for at := range n {
				places = append(places, at)
			}
		}
		for _, at := range places {
			for _, x := range []api.Interval{empty, iv(2, 1), iv(nan, 1), iv(-inf, 3), iv(-5, inf), entire, iv(signed, 1)} {
				c := slices.Clone(a)
				c[at] = x
				checkAll(t, c, b, 1, 3, 16)
				checkAll(t, b, c, 1, 3, 16)
			}
		}
	}
}

func TestReadAsEmpty(t *testing.T) {
	d := dice(15023)
	for _, x := range wrong() {
		for _, c := range calls() {
			gives(t, c.name, empty, list{x}, pt(0))
			for _, rest := range []list{points(1), {entire}, {iv(0, inf), iv(-inf, 0)}, points(greatest, greatest), {x}, {empty}, points(1, nan, 2)} {
				for at := range len(rest) + 1 {
					l := slices.Insert(slices.Clone(rest), at, x)
					b := d.list(len(l), d.interval)
					gives(t, c.name, empty, l, b...)
				}
			}
		}
		for _, rest := range []api.Interval{pt(0), entire, pt(1), empty, iv(-1, 1)} { // of Dot's second list
			gives(t, "Dot", empty, list{rest}, x)
			gives(t, "Dot", empty, list{pt(1), rest}, pt(1), x)
			gives(t, "Dot", empty, list{rest, pt(1)}, x, pt(1))
		}
	}
}

// -0 is read as 0, and no end that is answered is -0.
func TestSignedNoughts(t *testing.T) {
	for _, l := range []list{{pt(signed)}, {iv(signed, 0)}, {iv(0, signed)}, {pt(signed), pt(signed)}, {pt(0), pt(signed)}, {pt(1), pt(signed), pt(-1)}} {
		gives(t, "Sum", pt(0), l)
		gives(t, "Mean", pt(0), l)
		gives(t, "Dot", pt(0), l, make(list, len(l))...)
		gives(t, "Dot", pt(0), make(list, len(l)), l...)
	}
	for _, name := range []string{"Abs", "Squares", "Norm2"} {
		gives(t, name, pt(0), points(signed, 0, signed))
		gives(t, name, iv(0, 1), list{iv(-1, signed)})
		gives(t, name, iv(0, 1), list{iv(signed, 1)})
	}
	gives(t, "Dot", pt(0), points(signed, signed), entire, iv(-inf, 3))
	gives(t, "Dot", iv(-2, 0), list{iv(-1, signed)}, iv(signed, 2))
	gives(t, "Dot", iv(0, 2), list{iv(-1, signed)}, iv(-2, signed))
	gives(t, "Sum", iv(-1, 0), list{iv(-1, signed)})
	gives(t, "Mean", iv(0, least), points(least, signed, signed))
	gives(t, "Mean", iv(-least, 0), points(-least, signed, signed))
}

func TestInfiniteEnds(t *testing.T) {
	gives(t, "Sum", iv(3, inf), list{iv(1, inf), pt(2)})
	gives(t, "Sum", iv(-inf, 3), list{pt(2), iv(-inf, 1)})
	gives(t, "Sum", iv(-inf, 0), list{iv(-inf, -greatest), iv(-inf, greatest)})
	gives(t, "Sum", iv(0, inf), list{iv(-greatest, inf), iv(greatest, inf)})
	gives(t, "Sum", entire, list{entire, entire})
	gives(t, "Sum", entire, list{iv(greatest, inf), iv(-inf, -greatest), pt(1)})
	gives(t, "Mean", iv(1.5, inf), list{iv(1, inf), pt(2)})
	gives(t, "Mean", entire, list{iv(1, inf), iv(-inf, 2), pt(0)})
	gives(t, "Abs", iv(3, inf), list{iv(-inf, -2), pt(-1)})
	gives(t, "Abs", iv(0, inf), list{iv(-inf, 2), iv(-1, inf)})
	gives(t, "Abs", iv(3, inf), list{iv(1, inf), iv(-inf, -2)})
	gives(t, "Squares", iv(5, inf), list{iv(1, inf), iv(-inf, -2)})
	gives(t, "Squares", iv(greatest, inf), list{iv(greatest, inf)})
	gives(t, "Norm2", iv(5, inf), list{iv(3, inf), iv(-inf, -4)})
	gives(t, "Norm2", iv(greatest, inf), list{iv(greatest, inf)})
	gives(t, "Norm2", iv(0, inf), list{entire, entire})
	gives(t, "Dot", entire, list{iv(1, inf), iv(1, inf)}, pt(1), pt(-1))
	gives(t, "Dot", iv(-inf, -2), list{iv(1, inf), iv(-inf, -1)}, pt(-1), pt(1))
	gives(t, "Dot", iv(2, inf), list{iv(1, inf), iv(-inf, -1)}, pt(1), pt(-1))
	gives(t, "Dot", iv(0, inf), list{iv(0, 1)}, iv(2, inf))
	gives(t, "Dot", iv(-inf, 0), list{iv(-inf, -1)}, iv(0, 1))
	gives(t, "Dot", entire, list{iv(-1, least)}, iv(0, inf))
}

// 0 beside an unbounded one is 0, and the rest of the sum stays as it is.
func TestNoughtTimesUnbounded(t *testing.T) {
	for _, y := range []api.Interval{entire, iv(0, inf), iv(-inf, 0), iv(1, inf), iv(-inf, -1), iv(-1, inf), iv(greatest, inf)} {
		gives(t, "Dot", pt(0), points(0), y)
		gives(t, "Dot", pt(0), list{y}, pt(0))
		gives(t, "Dot", pt(6), points(2, 0), pt(3), y)
		gives(t, "Dot", pt(6), list{y, pt(2), y}, pt(signed), pt(3), pt(0))
		for _, x := range []api.Interval{iv(0, 1), iv(-1, 0), iv(0, inf), iv(-inf, 0), iv(-least, least), entire} {
			checkAll(t, list{x, pt(3)}, list{y, pt(5)}, someCrews()...)
			checkAll(t, list{pt(3), y}, list{pt(-5), x}, someCrews()...)
		}
	}
}

func TestTooGreat(t *testing.T) {
	gives(t, "Sum", iv(greatest, inf), points(greatest, greatest))
	gives(t, "Sum", iv(-inf, -greatest), points(-greatest, -greatest))
	gives(t, "Sum", iv(greatest, inf), points(greatest, least))
	gives(t, "Sum", iv(-inf, -greatest), points(-least, -greatest))
	gives(t, "Sum", entire, list{iv(-greatest, greatest), iv(-least, least)})
	gives(t, "Abs", iv(greatest, inf), points(-greatest, 0x1p-1022))
	gives(t, "Abs", iv(greatest, inf), points(-greatest, greatest))
	gives(t, "Squares", iv(greatest, inf), points(0x1p512))
	gives(t, "Squares", pt(0x1p1022), points(0x1p511))
	gives(t, "Squares", iv(greatest, inf), points(greatest, -greatest))
	gives(t, "Dot", iv(-inf, -greatest), points(greatest), pt(-greatest))
	gives(t, "Norm2", iv(greatest, inf), points(greatest, least))
	gives(t, "Norm2", iv(greatest, inf), points(-greatest, greatest))
	gives(t, "Mean", iv(-greatest, greatest), list{iv(-greatest, greatest), iv(-greatest, greatest), iv(-greatest, greatest)})
}

// The other way round: parts that are too great, of a sum that is a number.
func TestGreatPartsOfSmallSums(t *testing.T) {
	gives(t, "Sum", pt(greatest), points(greatest, greatest, greatest, -greatest, -greatest))
	gives(t, "Sum", iv(1, 3), list{iv(1, 2), pt(greatest), pt(greatest), pt(-greatest), pt(-greatest), iv(0, 1)})
	gives(t, "Mean", pt(greatest), points(greatest, greatest, greatest))
	gives(t, "Mean", pt(-greatest), points(-greatest, -greatest))
	gives(t, "Mean", pt(0x1p1023), points(greatest, 0x1p971))
	gives(t, "Norm2", pt(greatest), points(-greatest))
	gives(t, "Norm2", pt(0x1p1001), points(0x1p1000, -0x1p1000, 0x1p1000, -0x1p1000))
	gives(t, "Norm2", pt(0x1.4p1022), points(0x1.8p1021, 0x1p1022))
	gives(t, "Dot", pt(5), points(greatest, -greatest, 5), pt(greatest), pt(greatest), pt(1))
	gives(t, "Dot", iv(-1, 2), list{pt(greatest), iv(-1, 2), pt(greatest)}, pt(greatest), pt(1), pt(-greatest))
	gives(t, "Dot", pt(least), points(greatest, least, greatest), pt(greatest), pt(1), pt(-greatest))
}

func TestPartsThatCancel(t *testing.T) {
	gives(t, "Sum", pt(0), points(0.1, greatest, -0.1, -greatest))
	gives(t, "Sum", iv(-3, 3), list{iv(-1, 2), iv(-2, 1)})
	gives(t, "Sum", iv(0, least), list{pt(1), iv(0, least), pt(-1)})
	gives(t, "Mean", pt(least), points(1, 4*least, -1, 0))
	gives(t, "Mean", iv(0, least), points(1, least, -1))
	gives(t, "Mean", iv(-least, 0), points(1, -least, -1))
	d := dice(15024)
	for range 60 {
		l := d.cancelled(1 + d.below(300))
		checkAll(t, l, l, 1, 1+d.below(16))
		var turned list
		for _, x := range l {
			turned = append(turned, iv(-x.Hi, -x.Lo))
		}
		ones := slices.Repeat(points(1), 2*len(l))
		both := append(slices.Clone(l), turned...)
		checkAll(t, both, ones, 1+d.below(16))
	}
}

func TestBelowTheLeast(t *testing.T) {
	gives(t, "Squares", iv(0, least), list{iv(-least, 0)})
	gives(t, "Squares", iv(0, least), points(least, least, 0x1p-600))
	gives(t, "Squares", pt(least), points(0x1p-537))
	gives(t, "Squares", iv(least, 2*least), points(0x1p-537, -least))
	gives(t, "Norm2", pt(least), points(-least))
	gives(t, "Norm2", iv(least, 2*least), points(least, least))
	gives(t, "Norm2", pt(2*least), points(least, least, -least, least))
	gives(t, "Dot", iv(0, least), points(least), pt(0.5))
	gives(t, "Dot", iv(-least, 0), points(-least), pt(least))
	gives(t, "Dot", pt(least), points(least, least), pt(0.5), pt(0.5))
	gives(t, "Dot", iv(-least, least), list{iv(-least, least)}, iv(-least, least))
	gives(t, "Dot", iv(0, least), list{pt(least), pt(least)}, pt(least), iv(-least, 0))
	gives(t, "Dot", iv(-least, 0), list{pt(least), pt(-least)}, iv(0, least), pt(least))
	gives(t, "Mean", iv(0, least), points(least, 0))
	for _, n := range []int{1, 4, 9, 1024, 2025} { // so many squares of the least number
		gives(t, "Norm2", pt(math.Sqrt(float64(n))*least), slices.Repeat(points(least), n))
	}
}

// Two corners that rounding, too great or too small products make one: what is added tells them apart.
func TestCornersHardToTellApart(t *testing.T) {
	a, b := 1+e, 1+2*e // a a is b and e e
	gives(t, "Dot", iv(-e*e, 2+6*e), list{iv(-a, b), pt(b)}, iv(-1, a), pt(1))
	for _, c := range [][4]float64{
		{a, a, b, 1}, {a, b, b, a}, {1 + 3*e, 1 + 4*e, 1 + 2*e, 1 + 5*e}, {3, 1 + e, 1 + 2*e, 3},
		{greatest, greatest, math.Nextafter(greatest, 0), greatest}, {greatest, 2, greatest, 3}, {0x1p1000, 0x1p1000, 0x1p999, 0x1p1000},
		{least, 2 * least, least, 3 * least}, {least, least, least, least}, {0x1p-600, 0x1p-600, 0x1p-601, 0x1p-600},
		{least, inf, 1, greatest}, {1, greatest, inf, least}, {inf, 1, 1, inf}, {inf, inf, inf, inf},
	} {
		for _, x := range []api.Interval{iv(-c[0], c[2]), iv(-c[2], c[0]), iv(-c[0], c[1]), iv(-c[1], c[2])} {
			for _, y := range []api.Interval{iv(-c[3], c[1]), iv(-c[1], c[3]), iv(-c[2], c[3]), iv(-c[3], c[0])} {
				for i := range 4 {
					for _, sign := range []float64{1, -1} {
						p, q := pt(sign*c[i]), pt(c[(i+1)%4])
						checkAll(t, list{x, p}, list{y, q}, 1, 3)
						checkAll(t, list{p, y}, list{q, x}, 3)
					}
				}
			}
		}
	}
	d := dice(15025)
	for range 3000 {
		n := 2 + d.below(6)
		calls()[5].check(t, d.list(n, d.near), d.list(n, d.near), 1+d.below(16))
	}
}

// An interval that stands in a list twice is taken from twice, each time for itself.
func TestTwiceIsTwoTimes(t *testing.T) {
	x := iv(-1, 2)
	gives(t, "Sum", iv(-2, 4), list{x, x})
	gives(t, "Sum", iv(-3, 3), list{x, iv(-2, 1)})
	gives(t, "Squares", iv(0, 4), list{x})
	gives(t, "Dot", iv(-2, 4), list{x}, x)
	gives(t, "Dot", iv(-4, 8), list{x, x}, x, x)
	gives(t, "Norm2", iv(0, 2), list{x})
}

func TestRootsThatAreNumbers(t *testing.T) {
	for _, l := range [][]float64{{3, 4, 5}, {5, 12, 13}, {1, 2, 2, 3}, {2, 3, 6, 7}, {1, 4, 8, 9}, {1, 1, 1, 1, 2}, {0x1.fffffep26, 0x1.fffffcp26, 0}} {
		for _, exp := range []int{-1074, -1070, -1000, -538, -1, 0, 53, 500, 1000, 1019} {
			var parts list
			squares := 0.0
			for i, x := range l[:len(l)-1] {
				squares += x * x
				parts = append(parts, pt(math.Ldexp(x, exp-exp%2)*float64(1-2*(i%2))))
			}
			if whole := l[len(l)-1]; whole*whole == squares {
				gives(t, "Norm2", pt(math.Ldexp(whole, exp-exp%2)), parts)
			}
			checkAll(t, parts, parts, someCrews()...)
			hair := append(parts, pt(least)) // a hair more is none
			checkAll(t, hair, hair, someCrews()...)
		}
	}
	gives(t, "Norm2", iv(5, 13), list{iv(3, 5), iv(-12, -4)})
	gives(t, "Norm2", iv(0, 13), list{iv(-3, 5), iv(-12, 4)})
	gives(t, "Norm2", iv(1, 1+e), points(1, least))
	gives(t, "Norm2", iv(2, 2+2*e), points(1, 1, 1, 1, least))
	gives(t, "Norm2", pt(100), slices.Repeat(points(1), 10000))
}

func TestLongLists(t *testing.T) {
	l := points(0x1p80)
	l = append(l, slices.Repeat(list{iv(0x1p-10, 0x1p-9)}, 1<<15)...)
	l = append(l, pt(-0x1p80))
	for _, w := range someCrews() {
		for _, c := range calls() {
			if c.name == "Sum" || c.name == "Dot" {
				x, _ := c.ask(l, slices.Repeat(points(1), len(l)), w)
				is(t, x, iv(32, 64), "%s of a long list, %d workers", c.name, w)
			}
		}
	}
	checkAll(t, l, l, 1, 3, 16)
	d := dice(15026)
	l = d.list(20000, d.bounded)
	checkAll(t, l, d.shuffled(l), 2, 16)
}

// Elements, whatever they are, are held.
func TestElementsAreHeld(t *testing.T) {
	d := dice(15027)
	between := func(x api.Interval) float64 {
		y := min(max(pick(&d, x.Lo, x.Hi, d.number(), 0, x.Lo/2+x.Hi/2), x.Lo), x.Hi)
		if y != y {
			y = 0
		}
		return min(max(y, -greatest, x.Lo), greatest, x.Hi)
	}
	for range 300 {
		n := 1 + d.below(20)
		a, b := d.list(n, d.interval), d.list(n, d.interval)
		for _, c := range calls() {
			got, _ := c.ask(a, b, 1+d.below(16))
			for range 5 {
				sum := number(0)
				for i := range a {
					sum = sum.plus(c.value(between(a[i]), between(b[i])))
				}
				low, high := got.Lo == -inf || order(real{num: c.measure(got.Lo, n)}, sum) <= 0, got.Hi == inf || order(sum, real{num: c.measure(got.Hi, n)}) <= 0
				if !low || !high {
					t.Errorf("%s(%s, %s) = %x, but there is an element outside", c.name, shown(a), shown(b), got)
				}
			}
		}
	}
}
