package sieve_test

import (
	"math"
	"slices"
	"testing"

	"verge/api"
	"verge/sieve"
)

// P20.3: what comes of a box, worked out by hand.

// looks asks for what comes of one box alone: whatever comes of it in one round, of two that wait too.
func looks(t *testing.T, goals []api.Goal, b box, width float64, kind int, want ...box) {
	t.Helper()
	p := api.Paving{Boxes: 1, Rounds: 1}
	switch kind {
	case sieve.Inner:
		p.Inner = want
	case sieve.Edge:
		p.Edge = want
	case sieve.Left:
		p.Left = want
	}
	var found []given
	for _, x := range want {
		found = append(found, given{kind, x})
	}
	for _, l := range []api.Limits{{Boxes: 1, Rounds: 1}, {Boxes: 1, Rounds: 5}, {Boxes: 2, Rounds: 2}, {Boxes: 9, Rounds: 1}} {
		l.Width, l.Workers = width, 1+len(b)%3
		answers(t, goals, b, l, p)
		gives(t, goals, b, l, found)
	}
}

// edges ask for an edge box.
func edges(t *testing.T, goals []api.Goal, b box, width float64, want ...api.Interval) {
	t.Helper()
	looks(t, goals, b, width, sieve.Edge, want)
}

// inners ask for an inner box.
func inners(t *testing.T, goals []api.Goal, b box, width float64, want ...api.Interval) {
	t.Helper()
	looks(t, goals, b, width, sieve.Inner, want)
}

// vanishes asks for nothing.
func vanishes(t *testing.T, goals []api.Goal, b box) {
	t.Helper()
	for _, width := range []float64{0, 1, inf} {
		looks(t, goals, b, width, 0)
	}
}

// cuts ask for a box that is cut in that part.
func cuts(t *testing.T, goals []api.Goal, b box, width float64, at int, lower, upper api.Interval) {
	t.Helper()
	first, second := slices.Clone(b), slices.Clone(b)
	first[at], second[at] = lower, upper
	looks(t, goals, b, width, sieve.Left, first, second)
}

func next(x float64) float64 { return math.Nextafter(x, inf) }

// A box of which nothing comes: by one goal, by a later one, by all of them together, in the third round.
func TestLooksAtNothing(t *testing.T) {
	vanishes(t, []api.Goal{root2()}, box{iv(3, 4)})
	vanishes(t, []api.Goal{never(1)}, box{iv(3, 4)})
	vanishes(t, []api.Goal{sure(2), unsure(2), never(2)}, box{iv(3, 4), entire})
	vanishes(t, []api.Goal{inPart(1, 0, empty)}, box{iv(3, 4)})
	vanishes(t, []api.Goal{inPart(1, 0, iv(4, 3))}, box{iv(3, 4)})
	vanishes(t, []api.Goal{inPart(1, 0, iv(nan, 3))}, box{one(3)})
	vanishes(t, []api.Goal{goal(1, box{empty}, entire, api.Ins{Op: api.OpConst})}, box{iv(3, 4)})
	vanishes(t, []api.Goal{inPart(1, 0, iv(0, 1)), inPart(1, 0, iv(2, 3))}, box{iv(-9, 9)})
	vanishes(t, []api.Goal{alone(api.OpSqrt, 0, entire)}, box{iv(-9, -least)})
	// x = y and x = 2 y: the third round leaves nothing; or it leaves one number each, of which a fourth one
	// would leave nothing.
	vanishes(t, halving(), box{iv(0x1p-4, 1), iv(0x1p-4, 1)})
	edges(t, halving(), box{iv(0x1p-5, 1), iv(0x1p-5, 1)}, 0, one(0.25), one(0.125))
}

// halving are the goals x = y and x = 2 y: each round of them halves x and y.
func halving() []api.Goal {
	return []api.Goal{
		goal(2, nil, one(0), api.Ins{Op: api.OpSub, A: 0, B: 1}),
		goal(2, box{one(0.5)}, one(0), api.Ins{Op: api.OpConst}, api.Ins{Op: api.OpMul, A: 0, B: 2}, api.Ins{Op: api.OpSub, A: 3, B: 1}),
	}
}

// In three rounds, by the goals in their order.
func TestLooksInThreeRounds(t *testing.T) {
	goals := halving()
	edges(t, goals, box{iv(0, 1), iv(0, 1)}, 1, iv(0, 0.25), iv(0, 0.125))
	looks(t, goals, box{iv(0, 1), iv(0, 1)}, 0.125, sieve.Left, box{iv(0, 0.125), iv(0, 0.125)}, box{iv(0.125, 0.25), iv(0, 0.125)})
	slices.Reverse(goals)
	edges(t, goals, box{iv(0, 1), iv(0, 1)}, 1, iv(0, 0.125), iv(0, 0.125))
	// A chain of equal ones, against the order: each round brings one on.
	var chain []api.Goal
	for v := range 6 {
		chain = append(chain, goal(7, nil, one(0), api.Ins{Op: api.OpSub, A: v, B: v + 1}))
	}
	b := slices.Repeat(box{iv(0, 10)}, 7)
	b[0] = one(5)
	inners(t, chain, b, 20, slices.Repeat(box{one(5)}, 7)...)
	slices.Reverse(chain)
	edges(t, chain, b, 20, append(slices.Repeat(box{one(5)}, 4), b[4:]...)...)
}

// Of each decoration but Trv an inner box may be, whatever Width is; and all goals are asked.
func TestLooksAtInner(t *testing.T) {
	for _, width := range []float64{0, 0.5, 5, inf} {
		inners(t, []api.Goal{inPart(1, 0, iv(1, 2))}, box{iv(0, 3)}, width, iv(1, 2))
		inners(t, []api.Goal{sure(1)}, box{iv(1, 2)}, width, iv(1, 2))
		inners(t, []api.Goal{sure(2), inPart(2, 1, iv(1, 2))}, box{iv(0, 3), iv(0, 3)}, width, iv(0, 3), iv(1, 2))
		// Dac: of a box, of a value, without a last number.
		inners(t, []api.Goal{sure(1)}, box{entire}, width, entire)
		inners(t, []api.Goal{alone(api.OpSqr, 0, iv(-1, inf))}, box{iv(1, inf)}, width, iv(1, inf))
		inners(t, []api.Goal{alone(api.OpAdd, 0, iv(0, inf))}, box{one(greatest)}, width, one(greatest))
		// Def: a step that is made in the box.
		inners(t, []api.Goal{alone(api.OpFloor, 0, iv(0, 1))}, box{iv(0.5, 1.5)}, width, iv(0.5, 1.5))
		inners(t, []api.Goal{alone(api.OpCeil, 0, iv(0, inf))}, box{iv(0.5, inf)}, width, iv(0.5, inf))
		// What is not defined was taken off.
		inners(t, []api.Goal{alone(api.OpSqrt, 0, iv(0, 3))}, box{iv(-4, 16)}, width, iv(0, 9))
		// The value reaches to both ends of C; -0 is read as 0.
		inners(t, []api.Goal{alone(api.OpSqr, 0, iv(signed, 4))}, box{iv(0, 2)}, width, iv(0, 2))
		inners(t, []api.Goal{alone(api.OpId, 0, iv(-2, signed))}, box{iv(-2, 0)}, width, iv(-2, 0))
		inners(t, []api.Goal{alone(api.OpId, 0, one(signed))}, box{iv(-2, 2)}, width, one(0))
	}
	all := list(api.MaxGoals, func() api.Goal { return sure(1) })
	inners(t, all, box{iv(1, 2)}, 1, iv(1, 2))
	for i := range all {
		goals := slices.Clone(all)
		goals[i] = unsure(1)
		edges(t, goals, box{iv(1, 2)}, 1, iv(1, 2))
	}
}

// A box that is not inner: a value reaches beyond C, or a program is not defined all over it.
func TestLooksAtEdge(t *testing.T) {
	edges(t, []api.Goal{unsure(1)}, box{iv(1, 2)}, 1, iv(1, 2))
	edges(t, []api.Goal{inPart(1, 0, iv(1, 2)), unsure(1)}, box{iv(0, 3)}, 1, iv(1, 2))
	edges(t, []api.Goal{unsure(1), inPart(1, 0, iv(1, 2))}, box{iv(0, 3)}, 1, iv(1, 2))
	edges(t, []api.Goal{root2()}, box{iv(0, 2)}, 1, iv(0x1.6a09e667f3bccp+0, 0x1.6a09e667f3bcdp+0))
	// x - x is from -1 to 1.
	for _, c := range []api.Interval{one(0), iv(next(-1), 1), iv(next(-1), 2), iv(-1, -next(-1)), iv(-2, 0.5)} {
		edges(t, []api.Goal{alone(api.OpSub, 0, c)}, box{iv(1, 2)}, 1, iv(1, 2))
	}
	inners(t, []api.Goal{alone(api.OpSub, 0, iv(-1, 1))}, box{iv(1, 2)}, 1, iv(1, 2))
	// Trv: 1 / x over 0, also at an end; x / x; a root in a line that is not used.
	edges(t, []api.Goal{alone(api.OpRecip, 0, entire)}, box{iv(-1, 1)}, 2, iv(-1, 1))
	edges(t, []api.Goal{alone(api.OpRecip, 0, entire)}, box{iv(0, 1)}, 1, iv(0, 1))
	edges(t, []api.Goal{alone(api.OpRecip, 0, entire)}, box{iv(-1, 0)}, 1, iv(-1, 0))
	edges(t, []api.Goal{alone(api.OpDiv, 0, entire)}, box{iv(-1, 2)}, 3, iv(-1, 2))
	edges(t, []api.Goal{alone(api.OpPown, -2, entire)}, box{iv(-1, 2)}, 3, iv(-1, 2))
	hidden := goal(1, nil, entire, api.Ins{Op: api.OpSub}, api.Ins{Op: api.OpSqrt, A: 1}, api.Ins{Op: api.OpId})
	edges(t, []api.Goal{hidden}, box{iv(1, 2)}, 1, iv(1, 2))
	edges(t, []api.Goal{sure(1), hidden, sure(1)}, box{iv(1, 2)}, inf, iv(1, 2))
	// Trv, and beside it a goal that is sure: of the second one alone the box would be inner.
	edges(t, []api.Goal{alone(api.OpRecip, 0, entire), sure(1)}, box{iv(-1, 1)}, 2, iv(-1, 1))
}

// Wider than Width, by the width as it is rounded up.
func TestLooksAtWidths(t *testing.T) {
	goals := []api.Goal{unsure(1)}
	for _, row := range []struct {
		x   api.Interval
		wid float64
	}{
		{iv(0, 1), 1}, {iv(-3, 5), 8}, {iv(0, 2*least), 2 * least}, {iv(-greatest, 0), greatest}, {iv(-least, 1), next(1)}, {iv(-least, greatest), inf},
		{iv(-greatest, greatest), inf}, {iv(0, inf), inf}, {entire, inf},
	} {
		for _, width := range []float64{row.wid, next(row.wid), inf} {
			edges(t, goals, box{row.x}, width, row.x)
		}
		for _, width := range []float64{math.Nextafter(row.wid, 0), 0, signed} {
			if p := paved(t, goals, box{row.x}, api.Limits{Width: width, Boxes: 1, Rounds: 1, Workers: 1}); len(p.Left) != 2 || len(p.Edge) != 0 {
				t.Errorf("%v, %g: %s", row.x, width, shownPaving(p))
			}
		}
	}
	// One of several is enough.
	goals = []api.Goal{unsure(3)}
	for at := range 3 {
		b := box{iv(0, 1), iv(0, 1), iv(0, 1)}
		edges(t, goals, b, 1, b...)
		b[at] = iv(0, 4)
		edges(t, goals, b, 4, b...)
		cuts(t, goals, b, 1, at, iv(0, 2), iv(2, 4))
	}
}

// Where an interval is cut, the halves in their order.
func TestLooksAtHalves(t *testing.T) {
	goals := []api.Goal{unsure(1)}
	for _, row := range []struct{ x, lower, upper api.Interval }{
		{iv(0, 4), iv(0, 2), iv(2, 4)},
		{iv(-4, 2), iv(-4, -1), iv(-1, 2)},
		{iv(signed, 1), iv(0, 0.5), iv(0.5, 1)},
		{iv(-1, 1), iv(-1, 0), iv(0, 1)},
		{entire, iv(-inf, 0), iv(0, inf)},
		{iv(0, inf), iv(0, 1.5), iv(1.5, inf)},
		{iv(1, inf), iv(1, 0x1p512), iv(0x1p512, inf)},
		{iv(-greatest, greatest), iv(-greatest, 0), iv(0, greatest)},
		{iv(0, 2*least), iv(0, least), iv(least, 2*least)},
		{iv(1, 1+0x1p-51), iv(1, 1+0x1p-52), iv(1+0x1p-52, 1+0x1p-51)},
	} {
		looks(t, goals, box{row.x}, 0, sieve.Left, box{row.lower}, box{row.upper})
	}
}

// None of those that are wider can be cut: neighbours, and what lies beyond the greatest number.
func TestLooksAtWhatCannotBeCut(t *testing.T) {
	narrow := box{iv(1, next(1)), iv(0, least), iv(-least, 0), iv(0x1p60, next(0x1p60)), iv(greatest, inf), iv(-inf, -greatest), one(7), one(greatest)}
	for _, x := range narrow {
		edges(t, []api.Goal{unsure(1)}, box{x}, 0, x)
		for _, y := range narrow {
			edges(t, []api.Goal{unsure(2)}, box{x, y}, 0, x, y)
		}
	}
	edges(t, []api.Goal{unsure(len(narrow))}, narrow, 0, narrow...)
	// Beside one that is less wide, and can be cut; and then can't, or is not wider than Width.
	for _, x := range []api.Interval{iv(0x1p60, next(0x1p60)), iv(greatest, inf), iv(-inf, -greatest)} {
		cuts(t, []api.Goal{unsure(2)}, box{x, iv(0, 1)}, 0.5, 1, iv(0, 0.5), iv(0.5, 1))
		cuts(t, []api.Goal{unsure(2)}, box{iv(0, 1), x}, 0.5, 0, iv(0, 0.5), iv(0.5, 1))
		cuts(t, []api.Goal{unsure(3)}, box{x, iv(0, 1), x}, 0.5, 1, iv(0, 0.5), iv(0.5, 1))
		cuts(t, []api.Goal{unsure(3)}, box{iv(0, 1), x, iv(0, 2)}, 0, 2, iv(0, 1), iv(1, 2))
		edges(t, []api.Goal{unsure(2)}, box{x, iv(0, 1)}, 1, x, iv(0, 1))
		edges(t, []api.Goal{unsure(2)}, box{iv(0, 1), x}, 1, iv(0, 1), x)
		edges(t, []api.Goal{unsure(2)}, box{iv(1, next(1)), x}, 0, iv(1, next(1)), x)
	}
}

// The widest one; of several that are as wide the first one.
func TestLooksAtTheWidest(t *testing.T) {
	goals := []api.Goal{unsure(3)}
	cuts(t, goals, box{iv(0, 1), iv(0, 2), iv(0, 4)}, 0, 2, iv(0, 2), iv(2, 4))
	cuts(t, goals, box{iv(0, 1), iv(0, 4), iv(0, 2)}, 0, 1, iv(0, 2), iv(2, 4))
	cuts(t, goals, box{iv(0, 4), iv(0, 1), iv(0, 2)}, 0, 0, iv(0, 2), iv(2, 4))
	cuts(t, goals, box{iv(0, 4), iv(1, 5), iv(2, 6)}, 0, 0, iv(0, 2), iv(2, 4))
	cuts(t, goals, box{iv(0, 1), iv(1, 5), iv(2, 6)}, 0, 1, iv(1, 3), iv(3, 5))
	cuts(t, goals, box{iv(0, 4), iv(0, 1), iv(2, 6)}, 0, 0, iv(0, 2), iv(2, 4))
	cuts(t, goals, box{iv(0, 4), iv(0, next(4)), iv(2, 6)}, 0, 1, iv(0, next(2)), iv(next(2), next(4)))
	// Widths that are rounded up to one number, and those beyond all numbers, are as wide.
	cuts(t, goals, box{iv(0, next(1)), iv(-least, 1), iv(0, next(1))}, 0, 0, iv(0, next(1)/2), iv(next(1)/2, next(1)))
	cuts(t, goals, box{iv(-least, 1), iv(0, next(1)), iv(0, 1)}, 0, 0, iv(-least, 0.5), iv(0.5, 1))
	cuts(t, goals, box{iv(-greatest, greatest), entire, iv(0, inf)}, 0, 0, iv(-greatest, 0), iv(0, greatest))
	cuts(t, goals, box{iv(0, 1), iv(0, inf), entire}, 0, 1, iv(0, 1.5), iv(1.5, inf))
	cuts(t, goals, box{iv(0, greatest), iv(-least, greatest), entire}, 0, 1, iv(-least, greatest/2), iv(greatest/2, greatest))
	cuts(t, goals, box{iv(greatest, inf), iv(0, 1), iv(-inf, 0)}, 0, 2, iv(-inf, -1.5), iv(-1.5, 0))
	// What is left counts, not the box.
	narrowed := []api.Goal{inPart(2, 0, iv(0, 1)), unsure(2)}
	looks(t, narrowed, box{iv(-50, 50), iv(0, 2)}, 0, sieve.Left, box{iv(0, 1), iv(0, 1)}, box{iv(0, 1), iv(1, 2)})
}

// A box without parts is inner, or edge, also where no goal can be met.
func TestLooksAtNoParts(t *testing.T) {
	for _, width := range []float64{0, 1, inf} {
		for _, b := range []box{nil, {}} {
			inners(t, []api.Goal{sure(0)}, b, width)
			inners(t, []api.Goal{sure(0), goal(0, box{iv(1, inf)}, entire, api.Ins{Op: api.OpConst})}, b, width)
			edges(t, []api.Goal{unsure(0)}, b, width)
			edges(t, []api.Goal{sure(0), unsure(0)}, b, width)
			edges(t, []api.Goal{never(0)}, b, width)
			edges(t, []api.Goal{never(0), sure(0)}, b, width)
			edges(t, []api.Goal{goal(0, box{one(1)}, empty, api.Ins{Op: api.OpConst})}, b, width)
			edges(t, []api.Goal{goal(0, box{one(1)}, iv(2, 1), api.Ins{Op: api.OpConst})}, b, width)
			edges(t, []api.Goal{goal(0, box{empty}, entire, api.Ins{Op: api.OpConst})}, b, width)
			edges(t, []api.Goal{goal(0, box{empty}, empty, api.Ins{Op: api.OpConst})}, b, width)
			edges(t, []api.Goal{goal(0, box{iv(-1, 1)}, entire, api.Ins{Op: api.OpConst}, api.Ins{Op: api.OpSqrt})}, b, width)
		}
	}
}
