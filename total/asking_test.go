package total_test

import (
	"fmt"
	"math"
	"testing"

	"verge/api"
	"verge/total"
)

// P4.2 and P4.3: what is asked is rounded once.

// TestRoundBetweenNumbers asks at a number, a hair beside it, at the middle to the next one and a
// hair beside that.
func TestRoundBetweenNumbers(t *testing.T) {
	for _, x := range edges() {
		next := math.Nextafter(x, inf)
		half := []term{product(x, 0.5), product(next, 0.5)}
		if next == inf { // the middle of g and 2^1024
			half = []term{product(x, 0.5), product(0x1p1023, 1)}
		}
		for _, hair := range []float64{0, 1, -1} {
			l := []term{number(x), product(hair*least, least)}
			check(t, fmt.Sprint("at ", x, hair), sumOf(l...), modelOf(l...))
			l = append(half, product(hair*least, least))
			check(t, fmt.Sprint("behind ", x, hair), sumOf(l...), modelOf(l...))
		}
	}
}

func TestTiesByHand(t *testing.T) {
	for _, c := range []struct {
		name           string
		l              []term
		down, near, up float64
	}{
		{"1 and half a step", []term{number(1), number(e / 2)}, 1, 1, 1 + e},
		{"1 and a half steps", []term{number(1 + e), number(e / 2)}, 1 + e, 1 + 2*e, 1 + 2*e},
		{"a hair more", []term{number(1), number(e / 2), product(least, least)}, 1, 1 + e, 1 + e},
		{"a hair less", []term{number(1 + e), number(e / 2), product(-least, least)}, 1 + e, 1 + e, 1 + 2*e},
		{"below 0", []term{number(-1 - e), number(-e / 2)}, -1 - 2*e, -1 - 2*e, -1 - e},
		{"half the least", []term{product(least, 0.5)}, 0, 0, least},
		{"more than half the least", []term{product(least, 0.5), product(least, least)}, 0, least, least},
		{"minus half the least", []term{product(least, -0.5)}, -least, 0, 0},
		{"one and a half of the least", []term{product(least, 1.5)}, least, 2 * least, 2 * least},
		{"a hair above 0", []term{product(least, least)}, 0, 0, least},
		{"a hair below 0", []term{product(-least, least)}, -least, 0, 0},
		{"the middle behind g", []term{number(greatest), number(0x1p970)}, greatest, inf, inf},
		{"a hair less than that", []term{number(greatest), number(0x1p970), product(-least, least)}, greatest, greatest, inf},
		{"that below 0", []term{number(-greatest), number(-0x1p970)}, -inf, -inf, -greatest},
		{"g g", []term{product(greatest, greatest)}, greatest, inf, inf},
		{"-g g", []term{product(greatest, -greatest)}, -inf, -inf, -greatest},
	} {
		s := sumOf(c.l...)
		for _, d := range directions {
			want := c.near
			switch d {
			case api.Down:
				want = c.down
			case api.Up:
				want = c.up
			}
			is(t, s.Round(d), want, "%s: Round(%d)", c.name, d)
			is(t, s.Over(d, 1), want, "%s: Over(%d, 1)", c.name, d)
		}
	}
}

func TestOver(t *testing.T) {
	ns := []int{minInt, minInt + 1, -3, -1, 0, 1, 2, 3, 5, 10, 1<<31 - 1, 1 << 32, 1<<32 + 1, 1<<53 + 1, 1 << 62, maxInt - 1, maxInt}
	for _, x := range edges() {
		check(t, fmt.Sprint(x), of(x), modelOf(number(x)), ns...)
		check(t, fmt.Sprint(x, " 3"), sumOf(product(x, 3)), modelOf(product(x, 3)), ns...)
		check(t, fmt.Sprint(x, " x"), sumOf(product(x, -x)), modelOf(product(x, -x)), ns...)
	}
	for _, l := range [][]term{{number(inf)}, {number(-inf), number(5)}, {number(nan)}, {number(inf), number(-inf)}, {product(inf, -2)}} {
		check(t, fmt.Sprint(l), sumOf(l...), modelOf(l...), ns...)
	}
}

// TestOverAtTies takes sums of which an n-th part is a number, the middle of two, or a hair off.
func TestOverAtTies(t *testing.T) {
	d := dice(4020)
	for range 150 {
		x, n := d.number(), 1+d.below(1000)
		if math.Abs(x) > 0x1p1000 {
			x = ldexp(x, -50)
		}
		next := math.Nextafter(x, inf)
		for _, l := range [][]term{
			{product(x, float64(n))},
			{product(x, float64(n)), product(least, least)},
			{product(x, float64(n)/2), product(next, float64(n)/2)},
			{product(x, float64(n)/2), product(next, float64(n)/2), product(-least, least)},
		} {
			check(t, fmt.Sprint(l), sumOf(l...), modelOf(l...), n)
		}
	}
	s := sumOf(product(least, 3))
	is(t, s.Over(api.Near, 2), 2*least, "Over(Near, 2) of 3 t")
	is(t, s.Over(api.Near, 6), 0, "Over(Near, 6) of 3 t")
	is(t, s.Over(api.Up, maxInt), least, "Over(Up, the greatest int) of 3 t")
	is(t, s.Over(api.Down, maxInt), 0, "Over(Down, the greatest int) of 3 t")
	s.Neg()
	is(t, s.Over(api.Up, maxInt), 0, "Over(Up, the greatest int) of -3 t")
	is(t, s.Over(api.Down, maxInt), -least, "Over(Down, the greatest int) of -3 t")
	is(t, of(maxInt).Over(api.Down, maxInt), 1, "2^63 by 2^63 - 1, down")
	is(t, of(maxInt).Over(api.Up, maxInt), 1+e, "2^63 by 2^63 - 1, up")
	is(t, of(maxInt, -1).Over(api.Near, maxInt), 1, "2^63 - 1 by 2^63 - 1")
}

func TestRootOfSquares(t *testing.T) {
	for _, x := range edges() {
		s := sumOf(product(x, x))
		for _, d := range directions {
			is(t, s.Root(d), math.Abs(x), "Root(%d) of the square of %v", d, x)
		}
		for _, hair := range []float64{1, -1} {
			l := []term{product(x, x), product(hair*least, least)}
			check(t, fmt.Sprint(l), sumOf(l...), modelOf(l...))
		}
	}
}

// middles are the terms of the square of the middle of x and the next number, which is a sum of
// products just if it is a multiple of 2^-unit.
func middles(x float64) []term {
	h := math.Nextafter(x, inf) - x // (x + h/2)^2 = x x + x h + h h / 4
	if h == inf {
		h = 0x1p971
	}
	return []term{product(x, x), product(x, h), product(h/2, h/2)}
}

func TestRootAtTies(t *testing.T) {
	for _, x := range edges() {
		if x < 0x1p-1020 {
			continue
		}
		for _, hair := range []float64{0, 1, -1} {
			l := append(middles(x), product(hair*least, least))
			check(t, fmt.Sprint(l), sumOf(l...), modelOf(l...))
		}
	}
	s := sumOf(middles(1)...)
	is(t, s.Root(api.Near), 1, "Root(Near) at the middle behind 1")
	s = sumOf(middles(1 + e)...)
	is(t, s.Root(api.Near), 1+2*e, "Root(Near) at the middle behind 1 + e")
	s = sumOf(middles(greatest)...)
	is(t, s.Root(api.Near), inf, "Root(Near) at the middle behind g")
	is(t, s.Root(api.Down), greatest, "Root(Down) at the middle behind g")
	s.Mul(least, -least)
	is(t, s.Root(api.Near), greatest, "Root(Near) ahead of the middle behind g")
	is(t, s.Root(api.Up), inf, "Root(Up) ahead of the middle behind g")
}

// TestRootOfTheLeast goes through the least sums, whose roots are subnormal.
func TestRootOfTheLeast(t *testing.T) {
	s, m := total.New(), newModel()
	for i := range 400 {
		check(t, fmt.Sprint(i, " t t"), s, m, 1, 3)
		s.Mul(least, least)
		m.take(product(least, least))
	}
	is(t, sumOf(product(least, 3*least)).Root(api.Near), 2*least, "Root(Near) of 3 t t")
	is(t, sumOf(product(least, 2*least)).Root(api.Near), least, "Root(Near) of 2 t t")
}

func TestRootOfAny(t *testing.T) {
	d := dice(4021)
	for i := range 300 {
		l := d.terms(1 + d.below(4))
		s, m := sumOf(l...), modelOf(l...)
		check(t, fmt.Sprint(i), s, m)
		s.Neg()
		m.neg()
		check(t, fmt.Sprint(i, " turned"), s, m)
	}
	for at := range 1340 { // of all lengths, odd and even
		l := []term{power(3 * at), power(2 * at), power(at), power(at / 2)}
		check(t, fmt.Sprint("2^-2148 times 2^", 3*at, " and less"), sumOf(l...), modelOf(l...))
	}
	for _, x := range []float64{-least, -1, -greatest, -inf, nan} {
		for _, d := range directions {
			is(t, of(x).Root(d), nan, "Root(%d) of %v", d, x)
		}
	}
	for _, dir := range directions {
		is(t, of(inf).Root(dir), inf, "Root(%d) of +Inf", dir)
		is(t, of(minus).Root(dir), 0, "Root(%d) of -0", dir)
		is(t, sumOf(product(-least, least)).Root(dir), nan, "Root(%d) of -t t", dir)
	}
}
