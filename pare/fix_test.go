package pare_test

import (
	"math"
	"slices"
	"testing"

	"verge/api"
	"verge/pare"
)

// P19.3: rounds, worked out by hand, and by the words.

// equal is the goal that two variables are one.
func equal(vars, a, b int) api.Goal {
	return goal(vars, nil, one(0), api.Ins{Op: api.OpSub, A: a, B: b})
}

// scaled is the goal that the variable 0, times a number, is the variable 1.
func scaled(k float64) api.Goal {
	return goal(2, box{one(k)}, one(0), api.Ins{Op: api.OpConst}, api.Ins{Op: api.OpMul, A: 0, B: 2}, api.Ins{Op: api.OpSub, A: 3, B: 1})
}

// x = y and x = 2 y, over [0, 1]: each round halves y, and x with it in the next one.
func TestRoundsHalve(t *testing.T) {
	goals := []api.Goal{equal(2, 0, 1), scaled(0.5)}
	unit := box{iv(0, 1), iv(0, 1)}
	fixes(t, goals, unit, 0, 0, iv(0, 1), iv(0, 1))
	for _, rounds := range []int{1, 2, 3, 10, 500, 1073, 1074} {
		fixes(t, goals, unit, rounds, rounds, iv(0, math.Ldexp(1, 1-rounds)), iv(0, math.Ldexp(1, -rounds)))
	}
	// From the least number on there is no half to be had.
	fixes(t, goals, unit, 1075, 1075, iv(0, least), iv(0, least))
	for _, rounds := range []int{1076, 1077, 2000, api.MaxRounds - 1, api.MaxRounds} {
		fixes(t, goals, unit, rounds, 1076, iv(0, least), iv(0, least))
	}
	// The other way about x is halved at once.
	slices.Reverse(goals)
	fixes(t, goals, unit, 1, 1, iv(0, 0.5), iv(0, 0.5))
	fixes(t, goals, unit, 7, 7, iv(0, 0x1p-7), iv(0, 0x1p-7))
}

// So slow that MaxRounds are not enough.
func TestMaxRounds(t *testing.T) {
	goals := []api.Goal{equal(2, 0, 1), scaled(0.9375)}
	left, made, e := pare.Fix(goals, box{iv(0, 1), iv(0, 1)}, api.MaxRounds)
	if e != api.OK || made != api.MaxRounds {
		t.Fatalf("%v, %d, %d", left, made, e)
	}
	// 15/16 to the power 4096 is some 2^-381.4.
	if high := left[1].Hi; left[0].Lo != 0 || left[1].Lo != 0 || high < 0x1p-382 || high > 0x1p-381 {
		t.Errorf("%x", left)
	}
	askedOfFix(t, goals, box{iv(0, 1), iv(0, 1)}, api.MaxRounds)
	more, made, e := pare.Fix(goals, left, api.MaxRounds)
	if e != api.OK || made != api.MaxRounds || more[1].Hi >= left[1].Hi {
		t.Errorf("%v, %d, %d", more, made, e)
	}
	fixes(t, goals, left, 0, 0, left...)
}

// A chain of goals: each from what the one ahead of it has left, in the same round.
func TestOrderOfGoals(t *testing.T) {
	var goals []api.Goal
	for v := range api.MaxVars - 1 {
		goals = append(goals, equal(api.MaxVars, v, v+1))
	}
	b := list(api.MaxVars, func() api.Interval { return iv(0, 10) })
	b[0] = one(5)
	fives := list(api.MaxVars, func() api.Interval { return one(5) })
	fixes(t, goals, b, 1, 1, fives...)
	fixes(t, goals, b, api.MaxRounds, 2, fives...)
	// Against the order a round brings but one on.
	slices.Reverse(goals)
	for _, rounds := range []int{0, 1, 2, 30} {
		fixes(t, goals, b, rounds, rounds, append(slices.Clone(fives[:rounds+1]), b[rounds+1:]...)...)
	}
	fixes(t, goals, b, 31, 31, fives...)
	fixes(t, goals, b, 32, 32, fives...)
	fixes(t, goals, b, 33, 32, fives...)
	fixes(t, goals, b, api.MaxRounds, 32, fives...)
}

// MaxGoals goals, each of which has its own part to say.
func TestManyGoals(t *testing.T) {
	var goals []api.Goal
	var want box
	for v := range api.MaxGoals {
		goals = append(goals, goal(api.MaxVars, nil, iv(float64(v), 100), api.Ins{Op: api.OpId, A: v}))
		want = append(want, iv(float64(v), 50))
	}
	b := list(api.MaxVars, func() api.Interval { return iv(0, 50) })
	fixes(t, goals, b, 1, 1, want...)
	fixes(t, goals, b, 9, 2, want...)
	goals[api.MaxGoals-1].C = iv(60, 70)
	fixes(t, goals, b, 9, 1, empties(api.MaxVars)...)
}

// A round that changes nothing is the last one, and counts.
func TestRoundThatChangesNothing(t *testing.T) {
	for _, rounds := range []int{1, 2, api.MaxRounds} {
		fixes(t, []api.Goal{alone(api.OpId, 0, entire)}, box{iv(1, 2)}, rounds, 1, iv(1, 2))
		fixes(t, []api.Goal{alone(api.OpId, 0, entire)}, box{iv(signed, 2)}, rounds, 1, iv(0, 2))
		fixes(t, []api.Goal{alone(api.OpSqr, 0, iv(0, 9)), alone(api.OpNeg, 0, iv(-5, 5))}, box{iv(-1, 2)}, rounds, 1, iv(-1, 2))
		fixes(t, []api.Goal{alone(api.OpId, 0, entire)}, box{entire}, rounds, 1, entire)
		fixes(t, []api.Goal{goal(2, nil, entire, api.Ins{Op: api.OpId})}, box{one(3), iv(-inf, signed)}, rounds, 1, one(3), iv(-inf, 0))
	}
	// One end alone has changed, of the last part alone; a round that changes something is not the last.
	last := []api.Goal{goal(2, nil, iv(0, 3), api.Ins{Op: api.OpId, A: 1})}
	fixes(t, last, box{iv(0, 4), iv(0, 4)}, 9, 2, iv(0, 4), iv(0, 3))
	fixes(t, last, box{iv(0, 4), iv(-1, 3)}, 9, 2, iv(0, 4), iv(0, 3))
	fixes(t, last, box{iv(0, 4), iv(0, math.Nextafter(3, 4))}, 9, 2, iv(0, 4), iv(0, 3))
	// The first goal changes nothing, the second one does: the round is not the last.
	first := []api.Goal{goal(2, nil, iv(0, 9), api.Ins{Op: api.OpId, A: 1}), last[0]}
	fixes(t, first, box{iv(0, 4), iv(0, 4)}, 9, 2, iv(0, 4), iv(0, 3))
	slices.Reverse(first)
	fixes(t, first, box{iv(0, 4), iv(0, 4)}, 9, 2, iv(0, 4), iv(0, 3))
}

// A round that leaves a part Empty is the last one: the first, a later one, by the first goal or by the last.
func TestRoundThatLeavesNothing(t *testing.T) {
	b := box{iv(0, 10), iv(0, 10)}
	none, all := two(api.OpAdd, one(50)), two(api.OpAdd, entire)
	for _, goals := range [][]api.Goal{{none}, {none, all}, {all, none}, {all, none, all}, {none, none}, {all, two(api.OpMul, empty)}} {
		fixes(t, goals, b, 0, 0, b...)
		for _, rounds := range []int{1, 2, api.MaxRounds} {
			fixes(t, goals, b, rounds, 1, empty, empty)
		}
	}
	// x = y and x = 2 y over [2^-4, 1]: y and x are halved until y is below 2^-4.
	goals := []api.Goal{equal(2, 0, 1), scaled(0.5)}
	far := box{iv(0x1p-4, 1), iv(0x1p-4, 1)}
	fixes(t, goals, far, 1, 1, iv(0x1p-3, 1), iv(0x1p-4, 0.5))
	fixes(t, goals, far, 2, 2, iv(0x1p-2, 0.5), iv(0x1p-3, 0.25))
	fixes(t, goals, far, 3, 3, empty, empty)
	fixes(t, goals, far, 4, 3, empty, empty)
	fixes(t, goals, far, api.MaxRounds, 3, empty, empty)
	// A program that is defined nowhere in the box.
	fixes(t, []api.Goal{alone(api.OpSqrt, 0, entire)}, box{iv(-2, -1)}, 9, 1, empty)
}

// A part that is read as Empty: no round is made, whatever the goals are.
func TestEmptyToBeginWith(t *testing.T) {
	for _, x := range append(wrongs(), valids()...) {
		if read(x) != empty {
			fixes(t, []api.Goal{two(api.OpMul, entire)}, box{x, iv(1, 2)}, 0, 0, read(x), iv(1, 2))
			fixes(t, []api.Goal{goal(2, nil, entire, api.Ins{Op: api.OpId})}, box{iv(1, 2), x}, 3, 1, iv(1, 2), read(x))
			continue
		}
		for _, c := range []api.Interval{entire, empty, one(0)} {
			for _, rounds := range []int{0, 1, 2, api.MaxRounds} {
				fixes(t, []api.Goal{goal(2, nil, c, api.Ins{Op: api.OpId})}, box{iv(1, 2), x}, rounds, 0, empty, empty)
				fixes(t, []api.Goal{two(api.OpMul, c), two(api.OpAdd, c)}, box{x, iv(1, 2)}, rounds, 0, empty, empty)
			}
		}
	}
	fixes(t, []api.Goal{two(api.OpMul, entire)}, box{empty, iv(2, 1)}, 5, 0, empty, empty)
}

// A box without parts has none that could be Empty, and none that could change.
func TestFixWithoutParts(t *testing.T) {
	fixed := func(c api.Interval) api.Goal { return goal(0, box{iv(1, 2)}, c, api.Ins{Op: api.OpConst}) }
	for _, goals := range [][]api.Goal{{fixed(entire)}, {fixed(one(3))}, {fixed(empty), fixed(one(1))}, {fixed(one(1)), fixed(one(7))}} {
		for _, b := range []box{nil, {}} {
			fixes(t, goals, b, 0, 0)
			fixes(t, goals, b, 1, 1)
			fixes(t, goals, b, 2, 1)
			fixes(t, goals, b, api.MaxRounds, 1)
		}
	}
}

// Goals as they fall, over boxes as they fall.
func TestFixByWords(t *testing.T) {
	d := dice(19030)
	made := map[int]int{}
	var void int
	for range 6000 {
		vars := d.below(4)
		b := list(vars, d.part)
		goals := list(1+d.below(4), func() api.Goal { return d.aim(d.over(vars), b) })
		left, n := askedOfFix(t, goals, b, pick(&d, 0, 1, 2, 3, 9, 40))
		made[min(n, 4)]++
		if slices.Contains(left, empty) {
			void++
		}
	}
	if made[0] < 500 || made[1] < 1000 || made[2] < 300 || void < 1000 {
		t.Errorf("%v rounds were made, of %d nothing is left", made, void)
	}
	for range 2000 {
		vars := d.below(4)
		goals := list(1+d.below(4), func() api.Goal { return api.Goal{P: d.over(vars), C: d.wild()} })
		askedOfFix(t, goals, list(vars, d.wild), d.below(5))
	}
}

// Goals that have much to do with one another, so that many rounds are made.
func TestSystemsByWords(t *testing.T) {
	d := dice(19031)
	ties := []int{api.OpAdd, api.OpSub, api.OpMul, api.OpDiv, api.OpAdd, api.OpSub}
	many, void := 0, 0
	for range 6000 {
		vars := 2 + d.below(2)
		b := list(vars, pick(&d, d.bounded, d.uneven))
		goals := list(2+d.below(3), func() api.Goal {
			p := api.Program{Vars: vars, Consts: box{pick(&d, one(d.small()), d.bounded())}, Code: []api.Ins{{Op: api.OpConst}}}
			p.Code = append(p.Code, api.Ins{Op: pick(&d, ties...), A: d.below(vars), B: d.below(vars + 1)}, api.Ins{Op: pick(&d, ties...), A: vars + 1, B: d.below(vars)})
			return d.aim(p, b)
		})
		left, made := askedOfFix(t, goals, b, pick(&d, 1, 5, 60))
		if made > 3 {
			many++
		}
		if made > 1 && slices.Contains(left, empty) {
			void++
		}
	}
	if many < 100 || void < 50 {
		t.Errorf("only %d of many rounds, %d of which nothing is left in the end", many, void)
	}
}
