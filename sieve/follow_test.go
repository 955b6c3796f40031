package sieve_test

import (
	"math/big"
	"slices"
	"testing"

	"verge/api"
	"verge/sieve"
)

// P20.7 and W6.

// holds tells whether a point lies in a box.
func holds(b box, point []*big.Rat) bool {
	for i, v := range point {
		if b[i] == empty || !within(v, b[i]) {
			return false
		}
	}
	return true
}

func boxesOf(p api.Paving) []box { return slices.Concat(p.Inner, p.Edge, p.Left) }

// around tells an interval that has a real: the least one, or one that reaches farther.
func (d *dice) around(v *big.Rat) api.Interval {
	x := about(v)
	switch d.below(6) {
	case 0:
		x.Lo -= float64(d.below(9)) / 4
	case 1:
		x.Hi += float64(d.below(9)) / 4
	case 2:
		x = iv(x.Lo-float64(d.below(9)), x.Hi+float64(d.below(9)))
	case 3:
		x.Lo = -inf
	case 4:
		x.Hi = inf
	}
	return x
}

// met tells a goal that a point meets; ok: one was found.
func (d *dice) met(vars int, point []*big.Rat) (g api.Goal, ok bool) {
	p := d.modest(vars)
	y, _ := followed(p, point, d.taken(p))
	if y == nil {
		return g, false
	}
	return api.Goal{P: p, C: d.around(y)}, true
}

// A point that meets all goals lies in a box that is found.
func TestPointsThatMeetGoals(t *testing.T) {
	d := dice(20070)
	var points, cut, several int
	for range 6000 {
		vars := 1 + d.below(3)
		b := list(vars, d.open)
		point := d.point(b)
		var goals []api.Goal
		for range 1 + d.below(4) {
			if g, ok := d.met(vars, point); ok {
				goals = append(goals, g)
			}
		}
		if len(goals) == 0 {
			continue
		}
		p := paved(t, goals, b, d.limits())
		points++
		if p.Rounds > 2 {
			cut++
		}
		if len(boxesOf(p)) > 4 && len(goals) > 1 {
			several++
		}
		if !slices.ContainsFunc(boxesOf(p), func(x box) bool { return holds(x, point) }) {
			t.Errorf("%s; %v: %v is in none of %s", shown(goals), b, point, shownPaving(p))
		}
	}
	if points < 5000 || cut < 800 || several < 300 {
		t.Errorf("only %d points, %d where boxes were cut, %d with several goals", points, cut, several)
	}
}

// Points of regions of the plane: those that meet all goals lie in a box that is found, those of inner boxes
// meet all goals.
func TestPointsOfRegions(t *testing.T) {
	d := dice(20071)
	b := box{iv(-3, 3.5), iv(-2.75, 3)}
	met, missed := 0, 0
	for i, g := range regions() {
		for _, h := range append(regions()[i+1:], g) {
			goals := []api.Goal{g, h}
			p := paved(t, goals, b, api.Limits{Width: 0.125, Boxes: 400, Rounds: 20, Workers: 4})
			for range 60 {
				point := []*big.Rat{big.NewRat(int64(d.below(105)-48), 16), big.NewRat(int64(d.below(93)-44), 16)}
				all := true
				for _, g := range goals {
					y, _ := followed(g.P, point, d.taken(g.P))
					all = all && y != nil && within(y, read(g.C))
				}
				found := slices.ContainsFunc(boxesOf(p), func(x box) bool { return holds(x, point) })
				if all && !found {
					t.Errorf("%s; %v is in none of %s", shown(goals), point, shownPaving(p))
				}
				if all {
					met++
				} else if !found {
					missed++
				}
			}
		}
	}
	if met < 200 || missed < 1000 {
		t.Errorf("only %d points that meet the goals, %d that don't and are in no box", met, missed)
	}
}

// Points that are no ratios: the roots of a number, each in a box.
func TestRootsOfNumbers(t *testing.T) {
	d := dice(20072)
	found := 0
	for range 300 {
		n := pick(&d, 2, 3, 4, 5, 6, 7)
		c := max(d.small()*d.small(), 0.125) + float64(d.below(3))/10
		x := iv(-float64(d.below(50))/7, 1+float64(d.below(40))/7)
		goals := []api.Goal{alone(api.OpPown, n, one(c))}
		p := paved(t, goals, box{x}, api.Limits{Width: pick(&d, 0, 0.25, 3), Boxes: 40, Rounds: 20, Workers: 3})
		// Where the power passes c, be it up or down, a root is.
		passes := func(x api.Interval) bool {
			lo, hi := powerOf(exactly(x.Lo), n), powerOf(exactly(x.Hi), n)
			return lo.Cmp(exactly(c))*hi.Cmp(exactly(c)) <= 0
		}
		for _, half := range []api.Interval{iv(x.Lo, 0), iv(0, x.Hi)} {
			if !passes(half) {
				continue
			}
			found++
			if !slices.ContainsFunc(boxesOf(p), func(b box) bool {
				part := iv(max(b[0].Lo, half.Lo), min(b[0].Hi, half.Hi))
				return part.Lo <= part.Hi && passes(part)
			}) {
				t.Errorf("the power %d of %v in %g: %s", n, half, c, shownPaving(p))
			}
		}
	}
	if found < 150 {
		t.Errorf("only %d roots", found)
	}
}

// At each point of an inner box, with whatever elements of the constants, there is a trace whose last real
// lies in C.
func TestPointsOfInnerBoxes(t *testing.T) {
	d := dice(20073)
	var inner, known int
	hold := func(goals []api.Goal, b box, l api.Limits) {
		t.Helper()
		for _, x := range paved(t, goals, b, l).Inner {
			inner++
			for range 3 {
				point := d.point(x)
				for _, g := range goals {
					y, none := followed(g.P, point, d.taken(g.P))
					if none || y != nil && !within(y, read(g.C)) {
						t.Errorf("%s: %v of the inner box %v: %v, none: %t", shown(goals), point, x, y, none)
					}
					if y != nil {
						known++
					}
				}
			}
		}
	}
	for range 3000 {
		vars := 1 + d.below(3)
		b := list(vars, d.open)
		goals := list(1+d.below(2), func() api.Goal { return d.aim(d.modest(vars), b) })
		l := d.limits()
		l.Boxes = min(l.Boxes, 60)
		hold(goals, b, l)
	}
	for i, g := range regions() {
		for _, h := range append(regions()[i+1:], g) {
			hold([]api.Goal{g, h}, box{iv(-3, 3.5), iv(-2.75, 3)}, api.Limits{Width: 0.25, Boxes: 60, Rounds: 20, Workers: 2})
		}
	}
	if inner < 1000 || known < 3000 {
		t.Errorf("only %d inner boxes, %d traces", inner, known)
	}
}

// apart tells whether two boxes have no inner point in common.
func apart(a, b box) bool {
	for i := range a {
		if max(a[i].Lo, b[i].Lo) >= min(a[i].Hi, b[i].Hi) {
			return true
		}
	}
	return false
}

// liesRight holds the boxes of a paving against the box, and against each other.
func liesRight(t *testing.T, goals []api.Goal, b box, p api.Paving) {
	t.Helper()
	all := boxesOf(p)
	for i, x := range all {
		if !insideBox(x, b) {
			t.Errorf("%s; %v: %v lies outside", shown(goals), b, x)
		}
		for _, part := range x {
			if !right(part) || part == empty {
				t.Errorf("%s; %v: %v", shown(goals), b, x)
			}
		}
		for _, y := range all[:i] {
			if !apart(x, y) {
				t.Errorf("%s; %v: %v and %v", shown(goals), b, x, y)
			}
		}
	}
}

// Every box lies in the box, its parts are valid and not Empty, and no two have an inner point in common.
func TestBoxesApart(t *testing.T) {
	d := dice(20074)
	count := 0
	for range 5000 {
		vars := d.below(4)
		b := list(vars, pick(&d, d.part, d.part, d.open, d.wild))
		goals := list(1+d.below(3), func() api.Goal { return d.aim(d.over(vars), b) })
		l := d.limits()
		l.Boxes, l.Rounds = max(l.Boxes, 20), max(l.Rounds, 5)
		p := paved(t, goals, b, l)
		liesRight(t, goals, b, p)
		if len(boxesOf(p)) > 3 {
			count++
		}
	}
	for _, s := range searches() {
		s.l.Boxes = min(s.l.Boxes, 500)
		liesRight(t, s.goals, s.b, paved(t, s.goals, s.b, s.l))
	}
	if count < 500 {
		t.Errorf("only %d pavings of several boxes", count)
	}
}

// withoutLeft tells the inner and the edge boxes of what a range gives.
func withoutLeft(all []given) []given {
	return slices.DeleteFunc(slices.Clone(all), func(g given) bool { return g.kind == sieve.Left })
}

func begins[T any](l, more []T, same func(x, y T) bool) bool {
	return len(l) <= len(more) && slices.EqualFunc(l, more[:len(l)], same)
}

// With a greater Boxes what was found is found as before, in its order, and perhaps more behind it.
func TestGreaterBoxes(t *testing.T) {
	d := dice(20075)
	more := 0
	grow := func(goals []api.Goal, b box, l api.Limits) {
		t.Helper()
		var ahead []given
		var before api.Paving
		for _, l.Boxes = range []int{0, 1, 2, 3, 5, 9, 17, 40, 100, 300} {
			p, now := paved(t, goals, b, l), withoutLeft(ranged(t, goals, b, l))
			if !begins(before.Inner, p.Inner, sameBox) || !begins(before.Edge, p.Edge, sameBox) || p.Boxes < before.Boxes || p.Boxes > l.Boxes || p.Rounds < before.Rounds {
				t.Errorf("%s; %v, %v: %s, then %s", shown(goals), b, l, shownPaving(before), shownPaving(p))
			}
			if !begins(ahead, now, sameGiven) {
				t.Errorf("%s; %v, %v: %v, then %v", shown(goals), b, l, ahead, now)
			}
			if len(ahead) > 0 && len(now) > len(ahead) {
				more++
			}
			ahead, before = now, p
		}
	}
	for range 200 {
		vars := 1 + d.below(3)
		b := list(vars, d.open)
		l := d.limits()
		l.Rounds = max(l.Rounds, 8)
		grow(list(1+d.below(2), func() api.Goal { return d.aim(d.over(vars), b) }), b, l)
	}
	for _, g := range regions() {
		grow([]api.Goal{g}, box{iv(-3, 3.5), iv(-2.75, 3)}, api.Limits{Width: 0.5, Rounds: 40, Workers: 3})
	}
	for _, s := range searches() {
		grow(s.goals, s.b, s.l)
	}
	if more < 50 {
		t.Errorf("only %d times more was found", more)
	}
}
