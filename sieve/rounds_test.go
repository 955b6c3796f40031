package sieve_test

import (
	"slices"
	"testing"

	"verge/api"
	"verge/expr"
	"verge/sieve"
)

// P20.2, P20.4 and P20.5: rounds, their order and their end, worked out by hand, and by the words.

// grid tells the box from 0 to 4 and from 0 to 8, cut in so many rounds, 3 at most, the boxes in their order:
// first the second part is cut, then the first one, then the second one again.
func grid(rounds int) []box {
	out := []box{{iv(0, 4), iv(0, 8)}}
	for _, at := range []int{1, 0, 1}[:rounds] {
		var then []box
		for _, b := range out {
			mid := (b[at].Lo + b[at].Hi) / 2
			lower, upper := slices.Clone(b), slices.Clone(b)
			lower[at].Hi, upper[at].Lo = mid, mid
			then = append(then, lower, upper)
		}
		out = then
	}
	return out
}

func TestGridWrittenOut(t *testing.T) {
	want := []box{
		{iv(0, 2), iv(0, 2)}, {iv(0, 2), iv(2, 4)}, {iv(2, 4), iv(0, 2)}, {iv(2, 4), iv(2, 4)},
		{iv(0, 2), iv(4, 6)}, {iv(0, 2), iv(6, 8)}, {iv(2, 4), iv(4, 6)}, {iv(2, 4), iv(6, 8)},
	}
	if !sameBoxes(grid(3), want) {
		t.Fatal(grid(3))
	}
	l := api.Limits{Width: 2, Boxes: 15, Rounds: 4, Workers: 3}
	answers(t, []api.Goal{unsure(2)}, grid(0)[0], l, api.Paving{Edge: want, Boxes: 15, Rounds: 4})
}

// Rounds end because no box waits, because so many were made, or because the boxes looked at and those
// that wait would pass Boxes: 1, 3, 7, 15 in all.
func TestRoundsEnd(t *testing.T) {
	goals, b := []api.Goal{unsure(2)}, grid(0)[0]
	for boxes := range 20 {
		for rounds := range 7 {
			made := 0
			for made < 4 && made < rounds && boxes >= []int{1, 3, 7, 15}[made] {
				made++
			}
			want := api.Paving{Boxes: []int{0, 1, 3, 7, 15}[made], Rounds: made}
			if made == 4 {
				want.Edge = grid(3)
			} else {
				want.Left = grid(made)
			}
			for _, workers := range []int{1, 2, 16} {
				answers(t, goals, b, api.Limits{Width: 2, Boxes: boxes, Rounds: rounds, Workers: workers}, want)
			}
			var found []given
			for _, x := range append(slices.Clone(want.Edge), want.Left...) {
				found = append(found, given{map[bool]int{true: sieve.Edge, false: sieve.Left}[made == 4], x})
			}
			gives(t, goals, b, api.Limits{Width: 2, Boxes: boxes, Rounds: rounds, Workers: 5}, found)
		}
	}
}

// The square from 4 to 9: what is left of [-10, 10] is cut at 0, and the halves are inner.
func TestTwoInner(t *testing.T) {
	goals, b := []api.Goal{alone(api.OpSqr, 0, iv(4, 9))}, box{iv(-10, 10)}
	l := api.Limits{Width: 0.5, Boxes: 3, Rounds: 2, Workers: 2}
	answers(t, goals, b, l, api.Paving{Inner: []box{{iv(-3, -2)}, {iv(2, 3)}}, Boxes: 3, Rounds: 2})
	for _, l := range []api.Limits{{Width: 0.5, Boxes: 2, Rounds: 2, Workers: 2}, {Width: 0.5, Boxes: 3, Rounds: 1, Workers: 2}} {
		answers(t, goals, b, l, api.Paving{Left: []box{{iv(-3, 0)}, {iv(0, 3)}}, Boxes: 1, Rounds: 1})
	}
	l.Width = 6
	answers(t, goals, b, l, api.Paving{Edge: []box{{iv(-3, 3)}}, Boxes: 1, Rounds: 1})
}

// The roots of 2: two edge boxes of neighbours.
func TestTwoEdges(t *testing.T) {
	l := api.Limits{Boxes: 3, Rounds: 2, Workers: 2}
	want := api.Paving{Edge: []box{{iv(-0x1.6a09e667f3bcdp+0, -0x1.6a09e667f3bccp+0)}, {iv(0x1.6a09e667f3bccp+0, 0x1.6a09e667f3bcdp+0)}}, Boxes: 3, Rounds: 2}
	answers(t, []api.Goal{root2()}, box{iv(-4, 4)}, l, want)
	answers(t, []api.Goal{root2()}, box{entire}, l, want)
	answers(t, []api.Goal{root2(), alone(api.OpAbs, 0, iv(0, 1.5))}, box{entire}, l, want)
}

// 1 / x is all but undefined at 0: inner and edge boxes by turns, round by round.
func TestRoundsOfAPole(t *testing.T) {
	goals, b := []api.Goal{alone(api.OpRecip, 0, entire)}, box{iv(-1, 1)}
	all := []given{
		{sieve.Inner, box{iv(-1, -0.5)}}, {sieve.Inner, box{iv(0.5, 1)}}, // the third round
		{sieve.Inner, box{iv(-0.5, -0.25)}}, {sieve.Edge, box{iv(-0.25, 0)}}, {sieve.Edge, box{iv(0, 0.25)}}, {sieve.Inner, box{iv(0.25, 0.5)}}, // the fourth
	}
	l := api.Limits{Width: 0.25, Boxes: 11, Rounds: 9, Workers: 2}
	gives(t, goals, b, l, all)
	answers(t, goals, b, l, api.Paving{
		Inner: []box{{iv(-1, -0.5)}, {iv(0.5, 1)}, {iv(-0.5, -0.25)}, {iv(0.25, 0.5)}},
		Edge:  []box{{iv(-0.25, 0)}, {iv(0, 0.25)}}, Boxes: 11, Rounds: 4})
	// Three rounds: seven boxes, and four that wait.
	short := append(slices.Clone(all[:2]), given{sieve.Left, box{iv(-0.5, -0.25)}}, given{sieve.Left, box{iv(-0.25, 0)}}, given{sieve.Left, box{iv(0, 0.25)}}, given{sieve.Left, box{iv(0.25, 0.5)}})
	for _, l := range []api.Limits{{Width: 0.25, Boxes: 10, Rounds: 9, Workers: 2}, {Width: 0.25, Boxes: 7, Rounds: 9, Workers: 1}, {Width: 0.25, Boxes: 11, Rounds: 3, Workers: 16}} {
		gives(t, goals, b, l, short)
		answers(t, goals, b, l, gathered(short, 7, 3))
	}
	// Two rounds: one and two boxes, and four that wait.
	for _, l := range []api.Limits{{Width: 0.25, Boxes: 6, Rounds: 9, Workers: 2}, {Width: 0.25, Boxes: 3, Rounds: 9, Workers: 1}, {Width: 0.25, Boxes: 99, Rounds: 2, Workers: 16}} {
		answers(t, goals, b, l, api.Paving{Left: []box{{iv(-1, -0.5)}, {iv(-0.5, 0)}, {iv(0, 0.5)}, {iv(0.5, 1)}}, Boxes: 3, Rounds: 2})
	}
}

// All kinds: the square is from 4 to 100, and the greater one of x and 0, times some number from 0 to 1, is
// 0: of that all is sure below 0, nothing above it.
func TestAllKinds(t *testing.T) {
	goals := []api.Goal{
		alone(api.OpSqr, 0, iv(4, 100)),
		goal(1, box{one(0), iv(0, 1)}, one(0), api.Ins{Op: api.OpConst}, api.Ins{Op: api.OpMax, A: 0, B: 1}, api.Ins{Op: api.OpConst, N: 1}, api.Ins{Op: api.OpMul, A: 2, B: 3}),
	}
	// [-3, 10] is cut at 3.5, then [-3, 3.5] at 0.25, [3.5, 10] at 6.75; of [-3, 0.25] is left [-3, -2], of
	// [0.25, 3.5] [2, 3.5], which is cut at 2.75.
	found := []given{{sieve.Inner, box{iv(-3, -2)}}, {sieve.Edge, box{iv(2, 2.75)}}, {sieve.Edge, box{iv(2.75, 3.5)}}}
	for i := range 8 {
		found = append(found, given{sieve.Left, box{iv(3.5+float64(i)*0.8125, 3.5+float64(i+1)*0.8125)}})
	}
	for _, l := range []api.Limits{{Boxes: 13, Rounds: 9}, {Boxes: 20, Rounds: 9}, {Boxes: 21, Rounds: 4}} {
		l.Width, l.Workers = 1, 3
		gives(t, goals, box{iv(-3, 10)}, l, found)
		answers(t, goals, box{iv(-3, 10)}, l, gathered(found, 13, 4))
	}
	for i := 3; i < len(found); i++ {
		found[i].kind = sieve.Edge
	}
	l := api.Limits{Width: 1, Boxes: 21, Rounds: 5, Workers: 3}
	gives(t, goals, box{iv(-3, 10)}, l, found)
	answers(t, goals, box{iv(-3, 10)}, l, gathered(found, 21, 5))
}

// Boxes of which nothing comes count as looked at, and leave no place.
func TestRoundsWithNothing(t *testing.T) {
	goals := []api.Goal{unsure(1), far(1, 0)}
	// Of 0 to 8, cut at 4, the upper half comes to nothing; and so on.
	for rounds := 1; rounds <= 3; rounds++ {
		want := api.Paving{Left: []box{{iv(0, 8/float64(int(1)<<rounds))}, {iv(8/float64(int(1)<<rounds), 16/float64(int(1)<<rounds))}}, Boxes: 2*rounds - 1, Rounds: rounds}
		answers(t, goals, box{iv(0, 8)}, api.Limits{Boxes: 99, Rounds: rounds, Workers: 2}, want)
		answers(t, goals, box{iv(0, 8)}, api.Limits{Boxes: 2*rounds - 1, Rounds: 99, Workers: 1}, want)
		answers(t, goals, box{iv(0, 8)}, api.Limits{Boxes: 2 * rounds, Rounds: 99, Workers: 1}, want)
	}
	answers(t, goals, box{iv(0, 8)}, api.Limits{Width: 1, Boxes: 99, Rounds: 99, Workers: 2}, api.Paving{Edge: []box{{iv(0, 1)}}, Boxes: 7, Rounds: 4})
	// All comes to nothing in the last round: each x for itself, x x may be -1 over [-1, 2], but neither over
	// [-1, 0.5] nor over [0.5, 2].
	goals = []api.Goal{alone(api.OpMul, 0, one(-1))}
	answers(t, goals, box{iv(-1, 2)}, api.Limits{Boxes: 3, Rounds: 2, Workers: 2}, api.Paving{Boxes: 3, Rounds: 2})
	answers(t, goals, box{iv(-1, 2)}, api.Limits{Boxes: 99, Rounds: 99, Workers: 2}, api.Paving{Boxes: 3, Rounds: 2})
	answers(t, goals, box{iv(-1, 2)}, api.Limits{Boxes: 2, Rounds: 99, Workers: 2}, api.Paving{Left: []box{{iv(-1, 0.5)}, {iv(0.5, 2)}}, Boxes: 1, Rounds: 1})
}

// Down to the least number, one half a round; and so long that MaxRounds are not enough.
func TestManyRounds(t *testing.T) {
	l := api.Limits{Boxes: api.MaxBoxes, Rounds: api.MaxRounds, Workers: 2}
	answers(t, []api.Goal{far(1, 0)}, box{iv(0, 0x1p1023)}, l, api.Paving{Edge: []box{{iv(0, least)}}, Boxes: 2*2097 + 1, Rounds: 2098})
	l.Rounds = 2097
	answers(t, []api.Goal{far(1, 0)}, box{iv(0, 0x1p1023)}, l, api.Paving{Left: []box{{iv(0, least)}, {iv(least, 2*least)}}, Boxes: 2*2096 + 1, Rounds: 2097})
	// Each part is cut 2097 times, by turns.
	l.Rounds = api.MaxRounds
	both := []api.Goal{far(2, 0), far(2, 1)}
	b := box{iv(0, 0x1p1023), iv(0, 0x1p1023)}
	last := 0x1p1023 / 0x1p1000 / 0x1p1000 / 0x1p47 // after 2047 cuts of the first part, 2047 of the second one
	tiny := last / 2
	want := api.Paving{Left: []box{{iv(0, tiny), iv(0, tiny)}, {iv(0, tiny), iv(tiny, last)}}, Boxes: 2*4095 + 1, Rounds: 4096}
	answers(t, both, b, l, want)
}

// As many boxes as may be: 65535 in sixteen rounds, and 65536 that wait.
func TestManyBoxes(t *testing.T) {
	goals, b := []api.Goal{unsure(1)}, box{iv(0, 65536)}
	cells := func(count int) []box {
		var out []box
		wide := 65536 / float64(count)
		for i := range count {
			out = append(out, box{iv(float64(i)*wide, float64(i+1)*wide)})
		}
		return out
	}
	for _, workers := range []int{1, 16} {
		answers(t, goals, b, api.Limits{Boxes: api.MaxBoxes, Rounds: api.MaxRounds, Workers: workers}, api.Paving{Left: cells(65536), Boxes: 65535, Rounds: 16})
		answers(t, goals, b, api.Limits{Boxes: 65535, Rounds: 16, Workers: workers}, api.Paving{Left: cells(65536), Boxes: 65535, Rounds: 16})
		answers(t, goals, b, api.Limits{Boxes: 65534, Rounds: 16, Workers: workers}, api.Paving{Left: cells(32768), Boxes: 32767, Rounds: 15})
		answers(t, goals, b, api.Limits{Width: 2, Boxes: 65535, Rounds: 99, Workers: workers}, api.Paving{Edge: cells(32768), Boxes: 65535, Rounds: 16})
	}
}

// A box with an Empty part does not wait, whatever the limits are; parts are read.
func TestBoxesAsTheyAreRead(t *testing.T) {
	for _, l := range []api.Limits{fine(), {Workers: 1}, {Boxes: 9, Workers: 1}, {Rounds: 9, Workers: 1}, {Boxes: 1, Rounds: 1, Workers: 1}} {
		for _, x := range append(wrongs(), valids()...) {
			for _, g := range []api.Goal{sure(1), unsure(1), never(1)} {
				asked(t, []api.Goal{g}, box{x}, l)
			}
			if read(x) != empty {
				continue
			}
			for _, b := range []box{{x, iv(1, 2)}, {iv(1, 2), x}, {x, x}, {entire, x}} {
				for _, g := range []api.Goal{sure(2), unsure(2), inPart(2, 0, entire)} {
					answers(t, []api.Goal{g}, b, l, api.Paving{})
					gives(t, []api.Goal{g}, b, l, nil)
				}
			}
		}
	}
	zero := api.Limits{Width: 9, Workers: 1}
	answers(t, []api.Goal{unsure(2)}, box{iv(signed, 1), iv(-1, signed)}, zero, api.Paving{Left: []box{{iv(0, 1), iv(-1, 0)}}})
	zero.Boxes, zero.Rounds = 1, 1
	answers(t, []api.Goal{unsure(2)}, box{iv(signed, 1), iv(-1, signed)}, zero, api.Paving{Edge: []box{{iv(0, 1), iv(-1, 0)}}, Boxes: 1, Rounds: 1})
	answers(t, []api.Goal{sure(1)}, box{one(signed)}, zero, api.Paving{Inner: []box{{one(0)}}, Boxes: 1, Rounds: 1})
}

// A box without parts waits, too.
func TestNoParts(t *testing.T) {
	for _, g := range []api.Goal{sure(0), unsure(0), never(0)} {
		for _, l := range []api.Limits{{Workers: 1}, {Boxes: 9, Workers: 3}, {Rounds: 9, Workers: 1}, {Boxes: 1, Rounds: 1, Workers: 1}, fine()} {
			want := api.Paving{}
			kind := sieve.Left
			switch {
			case l.Boxes == 0 || l.Rounds == 0:
				want.Left = []box{{}}
			case sameGoal(g, sure(0)):
				want.Inner, want.Boxes, want.Rounds, kind = []box{{}}, 1, 1, sieve.Inner
			default:
				want.Edge, want.Boxes, want.Rounds, kind = []box{{}}, 1, 1, sieve.Edge
			}
			answers(t, []api.Goal{g}, nil, l, want)
			gives(t, []api.Goal{g}, box{}, l, []given{{kind, nil}})
		}
	}
}

// As many parts as may be, each cut in its turn.
func TestManyParts(t *testing.T) {
	b := slices.Repeat(box{iv(0, 2)}, api.MaxVars)
	goals := []api.Goal{far(api.MaxVars, 0)}
	for v := 1; v < api.MaxGoals; v++ {
		goals = append(goals, far(api.MaxVars, v))
	}
	l := api.Limits{Width: 1, Boxes: 99, Rounds: 99, Workers: 4}
	answers(t, goals, b, l, api.Paving{Edge: []box{slices.Repeat(box{iv(0, 1)}, api.MaxVars)}, Boxes: 2*api.MaxVars + 1, Rounds: api.MaxVars + 1})
}

// limits tells some, most of them small.
func (d *dice) limits() api.Limits {
	return api.Limits{Width: pick(d, 0, 0.125, 0.5, 1, 4, inf, signed), Boxes: pick(d, 0, 1, 3, 7, 20, 60, 150), Rounds: pick(d, 0, 1, 2, 3, 5, 8, 12, 40), Workers: 1 + d.below(api.MaxWorkers)}
}

// Goals as they fall, over boxes as they fall.
func TestPavingsByWords(t *testing.T) {
	d := dice(20020)
	var inner, edge, left, rounds int
	for range 5000 {
		vars := d.below(4)
		b := list(vars, d.part)
		goals := list(1+d.below(3), func() api.Goal { return d.aim(d.over(vars), b) })
		p := asked(t, goals, b, d.limits())
		inner, edge, left, rounds = inner+len(p.Inner), edge+len(p.Edge), left+len(p.Left), max(rounds, p.Rounds)
	}
	if inner < 1000 || edge < 1000 || left < 2000 || rounds < 12 {
		t.Errorf("only %d inner boxes, %d edge, %d left; %d rounds", inner, edge, left, rounds)
	}
	for range 2000 {
		vars := d.below(4)
		goals := list(1+d.below(3), func() api.Goal { return api.Goal{P: d.over(vars), C: d.wild()} })
		asked(t, goals, list(vars, d.wild), d.limits())
	}
}

// regions are goals whose solutions fill regions of the plane, or lines, over a box.
func regions() []api.Goal {
	return []api.Goal{
		disc(0, 2), disc(1, 2), disc(1.5, 1.5), disc(0, 0),
		two(api.OpMul, iv(-1, 1)), two(api.OpMul, one(1)), two(api.OpSub, iv(-0.5, 0.5)), two(api.OpDiv, iv(0.5, 2)), two(api.OpMax, iv(1, 2)), two(api.OpMin, one(1)),
		goal(2, nil, iv(0, 1), api.Ins{Op: api.OpSub, A: 0, B: 1}, api.Ins{Op: api.OpSqrt, A: 2}),
		goal(2, nil, one(1), api.Ins{Op: api.OpAdd, A: 0, B: 1}, api.Ins{Op: api.OpFloor, A: 2}),
		goal(2, nil, iv(-1, 0), api.Ins{Op: api.OpMul, A: 0, B: 0}, api.Ins{Op: api.OpSub, A: 1, B: 2}, api.Ins{Op: api.OpMul, A: 3, B: 0}),
		goal(2, nil, iv(-0.25, 0.25), api.Ins{Op: api.OpPown, A: 0, N: 3}, api.Ins{Op: api.OpSub, A: 2, B: 0}, api.Ins{Op: api.OpSub, A: 3, B: 1}),
		goal(2, box{iv(1, 1.25)}, one(0), api.Ins{Op: api.OpConst}, api.Ins{Op: api.OpFMA, A: 0, B: 1, C: 0}, api.Ins{Op: api.OpSub, A: 3, B: 2}),
	}
}

// Regions of the plane, one by one and two by two, in many boxes.
func TestRegionsByWords(t *testing.T) {
	d := dice(20021)
	b := box{iv(-3, 3.5), iv(-2.75, 3)}
	var all [][]api.Goal
	for i, g := range regions() {
		if _, e := expr.Check(g.P); e != api.OK {
			t.Fatal(shown([]api.Goal{g}), e)
		}
		all = append(all, []api.Goal{g})
		for _, h := range regions()[i+1:] {
			all = append(all, []api.Goal{g, h}, []api.Goal{h, g})
		}
	}
	var boxes, inner, edge, left int
	for _, goals := range all {
		l := api.Limits{Width: pick(&d, 0, 0.125, 0.25), Boxes: pick(&d, 40, 300, 1000), Rounds: pick(&d, 6, 9, 40), Workers: 1 + d.below(api.MaxWorkers)}
		p := asked(t, goals, b, l)
		boxes, inner, edge, left = boxes+p.Boxes, inner+len(p.Inner), edge+len(p.Edge), left+len(p.Left)
	}
	if boxes < 10000 || inner < 1000 || edge < 1000 || left < 1000 {
		t.Errorf("only %d boxes were looked at, %d inner, %d edge, %d left", boxes, inner, edge, left)
	}
}
