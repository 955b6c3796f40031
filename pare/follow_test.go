package pare_test

import (
	"math/big"
	"slices"
	"testing"

	"verge/api"
	"verge/pare"
)

// P19.4, P19.5 and W6.

func contracted(t *testing.T, g api.Goal, b box) box {
	t.Helper()
	left, e := pare.Contract(g, b)
	if e != api.OK || len(left) != len(b) {
		t.Fatalf("Contract(%s; %v) = %v, %d", shown(g), b, left, e)
	}
	return left
}

func fixed(t *testing.T, goals []api.Goal, b box, rounds int) box {
	t.Helper()
	left, _, e := pare.Fix(goals, b, rounds)
	if e != api.OK || len(left) != len(b) {
		t.Fatalf("Fix(%s; %v, %d) = %v, %d", shownAll(goals), b, rounds, left, e)
	}
	return left
}

// holds tells whether a point lies in a box.
func holds(b box, point []*big.Rat) bool {
	for i, v := range point {
		if b[i] == empty || !within(v, b[i]) {
			return false
		}
	}
	return true
}

// around tells an interval that has a real: the least one, or one that reaches farther.
func (d *dice) around(v *big.Rat) api.Interval {
	x := about(v)
	switch d.below(6) {
	case 0:
		x.Lo -= float64(d.below(9)) / 4
	case 1:
		x.Hi += float64(d.below(9)) / 4
	case 2:
		x = iv(x.Lo-float64(d.below(9)), x.Hi+float64(d.below(9)))
	case 3:
		x.Lo = -inf
	case 4:
		x.Hi = inf
	}
	return x
}

// met tells a goal that a point meets; ok: one was found.
func (d *dice) met(vars int, point []*big.Rat) (g api.Goal, ok bool) {
	p := d.modest(vars)
	y := followed(p, point, d.taken(p))
	if y == nil {
		return g, false
	}
	return api.Goal{P: p, C: d.around(y)}, true
}

// A point with a trace whose last real lies in C is left, be it by one goal, be it by several.
func TestPointsThatMeetGoals(t *testing.T) {
	d := dice(19040)
	var points, narrowed, systems, rounds int
	for range 9000 {
		vars := 1 + d.below(3)
		b := list(vars, d.open)
		point := d.point(b)
		var goals []api.Goal
		for range 1 + d.below(4) {
			g, ok := d.met(vars, point)
			if !ok {
				continue
			}
			goals = append(goals, g)
			left := contracted(t, g, b)
			points++
			if !holds(left, point) {
				t.Errorf("%s; %v: %v is not in %v", shown(g), b, point, left)
			}
			if !sameBox(left, b) {
				narrowed++
			}
		}
		if len(goals) == 0 {
			continue
		}
		left, made, e := pare.Fix(goals, b, pick(&d, 0, 1, 2, 3, 50))
		if e != api.OK || !holds(left, point) {
			t.Errorf("%s; %v: %v is not in %v, %d", shownAll(goals), b, point, left, e)
		}
		if len(goals) > 1 && !sameBox(left, b) {
			systems++
		}
		rounds = max(rounds, made)
	}
	if points < 8000 || narrowed < 2000 || systems < 1000 || rounds < 4 {
		t.Errorf("only %d points, %d boxes narrowed, %d by several goals, %d rounds", points, narrowed, systems, rounds)
	}
}

// A goal whose C is Entire takes off no point at which the program has a trace.
func TestEveryTraceMeetsAll(t *testing.T) {
	d := dice(19041)
	points, narrowed := 0, 0
	for range 4000 {
		vars := 1 + d.below(3)
		p := d.modest(vars)
		if d.below(2) == 0 { // a root that is not used
			p.Code = append(p.Code, api.Ins{Op: api.OpSqrt, A: d.below(vars)}, api.Ins{Op: api.OpId, A: vars + len(p.Code) - 1})
		}
		b := list(vars, d.open)
		left := contracted(t, api.Goal{P: p, C: entire}, b)
		for range 4 {
			point := d.point(b)
			if followed(p, point, d.taken(p)) == nil {
				continue
			}
			points++
			if !sameBox(left, b) {
				narrowed++
			}
			if !holds(left, point) {
				t.Errorf("%s; %v: %v is not in %v", shown(api.Goal{P: p, C: entire}), b, point, left)
			}
		}
	}
	if points < 4000 || narrowed < 100 {
		t.Errorf("only %d points, %d in boxes that were narrowed", points, narrowed)
	}
}

// A goal whose C is Empty leaves Empty parts alone.
func TestNothingMeetsNone(t *testing.T) {
	d := dice(19042)
	for range 3000 {
		p := d.any()
		b := list(p.Vars, pick(&d, d.part, d.wild))
		for _, c := range []api.Interval{empty, iv(2, 1), iv(nan, 1), iv(inf, inf)} {
			leavesNothing(t, api.Goal{P: p, C: c}, b)
			other := d.aim(p, b)
			for _, goals := range [][]api.Goal{{{P: p, C: c}}, {other, {P: p, C: c}}, {{P: p, C: c}, other}} {
				if left := fixed(t, goals, b, 1+d.below(3)); !sameBox(left, empties(p.Vars)) {
					t.Errorf("%s; %v: %v is left", shownAll(goals), b, left)
				}
			}
		}
	}
}

// Points that are no ratios: x to the power n in one number. The root is left, if it lies in the box.
func TestRootsOfNumbers(t *testing.T) {
	d := dice(19043)
	found := 0
	for range 4000 {
		n := pick(&d, 2, 3, 4, 5, 7, -1, -2, -3, -5)
		c := max(d.small()*d.small(), 0.125) + float64(d.below(3))/10
		x := iv(float64(d.below(4))/3, 1+float64(d.below(40))/7)
		lo, hi := powerOf(exactly(x.Lo), n), powerOf(exactly(x.Hi), n)
		root := exactly(c)
		if n < 0 { // the lower end's power is the greater one, and of 0 there is none
			lo, hi = hi, lo
		}
		if lo.Cmp(root) > 0 || hi != nil && hi.Cmp(root) < 0 {
			continue
		}
		found++
		left := contracted(t, alone(api.OpPown, n, one(c)), box{x})[0]
		if left == empty || left.Lo < x.Lo || left.Hi > x.Hi {
			t.Fatalf("the power %d of %v in %g: %v is left", n, x, c, left)
		}
		lo, hi = powerOf(exactly(left.Lo), n), powerOf(exactly(left.Hi), n)
		if n < 0 {
			lo, hi = hi, lo
		}
		if lo.Cmp(root) > 0 || hi.Cmp(root) < 0 {
			t.Errorf("the power %d of %v in %g: %v is left", n, x, c, left)
		}
	}
	if found < 800 {
		t.Errorf("only %d roots", found)
	}
}

// Traces through roots that are no ratios, whose last real is one.
func TestTracesThroughRoots(t *testing.T) {
	d := dice(19044)
	root := api.Ins{Op: api.OpSqrt}
	for range 2000 {
		x := iv(d.small(), 17)
		v := d.element(iv(max(x.Lo, 0), 17))
		point := []*big.Rat{v}
		for _, row := range []struct {
			in   api.Ins
			last *big.Rat
		}{
			{api.Ins{Op: api.OpSqr, A: 1}, v},
			{api.Ins{Op: api.OpMul, A: 1, B: 1}, v},
			{api.Ins{Op: api.OpPown, A: 1, N: 4}, times(v, v)},
			{api.Ins{Op: api.OpSub, A: 1, B: 1}, whole(0)},
			{api.Ins{Op: api.OpFMA, A: 1, B: 1, C: 0}, plus(v, v)},
		} {
			g := goal(1, nil, d.around(row.last), root, row.in)
			if left := contracted(t, g, box{x}); !holds(left, point) {
				t.Errorf("%s; %v: %v is not in %v", shown(g), x, v, left)
			}
		}
		// The root itself in an interval: what it is above, and below, its square is.
		g := alone(api.OpSqrt, 0, d.bounded())
		above := g.C.Lo <= 0 || powerOf(exactly(g.C.Lo), 2).Cmp(v) <= 0
		below := g.C.Hi >= 0 && powerOf(exactly(g.C.Hi), 2).Cmp(v) >= 0
		if left := contracted(t, g, box{x}); above && below && !holds(left, point) {
			t.Errorf("%s; %v: %v is not in %v", shown(g), x, v, left)
		}
	}
}

// smaller tells a box that lies in another one.
func (d *dice) smaller(b box) box {
	out := box{}
	for _, x := range b {
		y := d.within(read(x))
		if y == empty && d.below(4) > 0 {
			y = read(x)
		}
		out = append(out, y)
	}
	return out
}

// A box that lies in another one, a C that lies in another one: what is left lies in what is left.
func TestSmallerBoxesAndGoals(t *testing.T) {
	d := dice(19045)
	narrowed := 0
	for range 8000 {
		vars := d.below(4)
		b := list(vars, pick(&d, d.part, d.part, d.wild))
		goals := list(1+d.below(3), func() api.Goal { return d.aim(d.over(vars), b) })
		small, tight := d.smaller(b), slices.Clone(goals)
		for i := range tight {
			tight[i].C = d.within(read(goals[i].C))
		}
		wide := contracted(t, goals[0], b)
		for _, left := range []box{contracted(t, goals[0], small), contracted(t, tight[0], b), contracted(t, tight[0], small)} {
			if !insideBox(left, wide) {
				t.Errorf("%s and %v; %v and %v: %v is not inside %v", shown(goals[0]), tight[0].C, b, small, left, wide)
			}
			if len(left) > 0 && left[0] != empty && !sameBox(left, wide) {
				narrowed++
			}
		}
		rounds := pick(&d, 0, 1, 2, 3, 20)
		wide = fixed(t, goals, b, rounds)
		for _, left := range []box{fixed(t, goals, small, rounds), fixed(t, tight, b, rounds), fixed(t, tight, small, rounds)} {
			if !insideBox(left, wide) {
				t.Errorf("%s and %v; %v and %v, %d: %v is not inside %v", shownAll(goals), shownAll(tight), b, small, rounds, left, wide)
			}
		}
	}
	if narrowed < 3000 {
		t.Errorf("only %d boxes were narrowed", narrowed)
	}
}

// So many rounds, and then so many more.
func TestRoundsAndMoreRounds(t *testing.T) {
	d := dice(19046)
	both := func(goals []api.Goal, b box, first, more int) {
		t.Helper()
		apart := fixed(t, goals, fixed(t, goals, b, first), more)
		if together := fixed(t, goals, b, first+more); !sameBox(apart, together) {
			t.Errorf("%s; %v: in %d and %d rounds %v, else %v", shownAll(goals), b, first, more, apart, together)
		}
	}
	for range 4000 {
		vars := d.below(4)
		b := list(vars, d.part)
		both(list(1+d.below(3), func() api.Goal { return d.aim(d.over(vars), b) }), b, d.below(4), d.below(4))
	}
	for _, k := range []float64{0.5, 0.75, 0.9375, 1, 2} {
		for _, b := range []box{{iv(0, 1), iv(0, 1)}, {iv(-3, 7), iv(-5, 1)}, {iv(0x1p-90, 1), entire}} {
			for _, first := range []int{0, 1, 2, 50, 1074, 2000, api.MaxRounds} {
				for _, more := range []int{0, 1, 2, 50, api.MaxRounds - first} {
					if first+more <= api.MaxRounds {
						both([]api.Goal{equal(2, 0, 1), scaled(k)}, b, first, more)
					}
				}
			}
		}
	}
}

// One goal and one round: what Contract leaves.
func TestOneRoundOfOneGoal(t *testing.T) {
	d := dice(19047)
	for range 6000 {
		p := d.any()
		b := list(p.Vars, pick(&d, d.part, d.wild))
		g := d.aim(p, b)
		made := 1
		if slices.Contains(readBox(b), empty) {
			made = 0
		}
		fixes(t, []api.Goal{g}, b, 1, made, contracted(t, g, b)...)
	}
}
