package pare_test

import (
	"slices"
	"sync"
	"testing"

	"verge/api"
	"verge/pare"
)

// P19.6, R3 and R4

// roomy tells the same list with room behind it that holds others.
func roomy[T any](l []T, others ...T) []T {
	return append(append(make([]T, 0, len(l)+len(others)), l...), others...)[:len(l)]
}

func all[T any](l []T) []T { return slices.Clone(l[:cap(l)]) }

// spoil writes over a list, and over the room behind it.
func spoil[T any](l []T, x T) {
	l = l[:cap(l)]
	for i := range l {
		l[i] = x
	}
}

func roomyBox(b box) box { return roomy(b, iv(3, signed), iv(nan, 4), empty) }

func roomyGoal(g api.Goal) api.Goal {
	p := api.Program{Vars: g.P.Vars, Consts: roomy(g.P.Consts, iv(nan, signed), iv(2, 1), iv(8, 9)), Code: roomy(g.P.Code, api.Ins{Op: 99, A: -5}, api.Ins{Op: api.OpId})}
	return api.Goal{P: p, C: g.C}
}

func roomyGoals(goals []api.Goal) []api.Goal {
	var out []api.Goal
	for _, g := range goals {
		out = append(out, roomyGoal(g))
	}
	return roomy(out, api.Goal{}, alone(api.OpSqr, 0, iv(2, 1)))
}

func allGoal(g api.Goal) api.Goal {
	return api.Goal{P: api.Program{Vars: g.P.Vars, Consts: all(g.P.Consts), Code: all(g.P.Code)}, C: g.C}
}

func allGoals(goals []api.Goal) []api.Goal {
	var out []api.Goal
	for _, g := range all(goals) {
		out = append(out, allGoal(g))
	}
	return out
}

func spoilGoals(goals []api.Goal) {
	for _, g := range goals {
		spoil(g.P.Consts, iv(-77, 77))
		spoil(g.P.Code, api.Ins{Op: api.OpPown, N: 7})
	}
	spoil(goals, api.Goal{})
}

// What is handed in stays as it was, its parts not as they are read but as they are, spare room too.
func TestHandedIn(t *testing.T) {
	d := dice(19060)
	for run := range 4000 {
		vars := d.below(4)
		b := roomyBox(list(vars, pick(&d, d.wild, d.part)))
		var goals []api.Goal
		for range 1 + d.below(3) {
			goals = append(goals, d.aim(d.over(vars), b))
		}
		last := &goals[len(goals)-1]
		switch run % 10 {
		case 0:
			last.P.Code[len(last.P.Code)-1].Op = 22
		case 1:
			last.P.Vars++ // the box is too short then, or an operand none
		case 2:
			last.C = d.wild()
		}
		goals = roomyGoals(goals)
		kept, keptBox := allGoals(goals), all(b)
		pare.Contract(goals[0], b)
		pare.Fix(goals, b, pick(&d, 0, 1, 3, -1))
		if !slices.EqualFunc(allGoals(goals), kept, sameGoal) {
			t.Errorf("%s became %s", shownAll(kept), shownAll(allGoals(goals)))
		}
		if !sameBox(all(b), keptBox) {
			t.Errorf("%x became %x", keptBox, all(b))
		}
	}
}

// Answers are new memory, spare room too: nothing that is handed in, and no other answer, is seen in them.
func TestAnswersAreNewMemory(t *testing.T) {
	d := dice(19061)
	for range 4000 {
		vars := d.below(4)
		b := list(vars, d.part)
		goals := list(1+d.below(3), func() api.Goal { return d.aim(d.over(vars), b) })
		rounds := d.below(4)
		want, wantFixed := wanted(t, goals[0], b), box{}
		wantFixed, _ = wantedOfFix(t, goals, b, rounds)
		handed, handedBox := roomyGoals(goals), roomyBox(b)
		first, _ := pare.Contract(handed[0], handedBox)
		second, _ := pare.Contract(handed[0], handedBox)
		third, _, _ := pare.Fix(handed, handedBox, rounds)
		fourth, _, _ := pare.Fix(handed, handedBox, rounds)
		kept := all(handedBox)
		spoil(first, iv(-5, 5))
		spoil(third, iv(-6, 6))
		if !sameBox(all(handedBox), kept) {
			t.Errorf("%s; %v: with the answers the box became %v", shownAll(goals), b, all(handedBox))
		}
		spoilGoals(handed)
		spoil(handedBox, iv(-7, 7))
		if !sameBox(second, want) {
			t.Errorf("%s; %v: what Contract left became %v", shown(goals[0]), b, second)
		}
		if !sameBox(fourth, wantFixed) {
			t.Errorf("%s; %v, %d: what Fix left became %v", shownAll(goals), b, rounds, fourth)
		}
		leaves(t, goals[0], b, want...)
	}
}

// Where nothing is changed, or no round is made, the answer is not the box.
func TestAnswersAreNotTheBox(t *testing.T) {
	for _, b := range []box{{iv(1, 2), iv(3, 4)}, {empty, iv(3, 4)}, {empty, empty}} {
		kept := slices.Clone(b)
		for _, c := range []api.Interval{entire, empty} {
			g := goal(2, nil, c, api.Ins{Op: api.OpId, A: 1})
			left, _ := pare.Contract(g, b)
			spoil(left, one(9))
			for rounds := range 3 {
				left, _, _ = pare.Fix([]api.Goal{g, g}, b, rounds)
				spoil(left, one(9))
			}
		}
		if !sameBox(b, kept) {
			t.Errorf("%v became %v", kept, b)
		}
	}
}

// nil and an empty list are one.
func TestNothing(t *testing.T) {
	for _, consts := range []box{nil, {}} {
		g := goal(1, consts, iv(1, 4), api.Ins{Op: api.OpSqr})
		leaves(t, g, box{iv(0, 9)}, iv(1, 2))
		fixes(t, []api.Goal{g}, box{iv(0, 9)}, 9, 2, iv(1, 2))
	}
	for _, goals := range [][]api.Goal{nil, {}} {
		refusedByFix(t, goals, box{iv(0, 9)}, 1, api.ErrGoals)
	}
	for _, b := range []box{nil, {}} {
		leaves(t, goal(0, box{one(3)}, entire, api.Ins{Op: api.OpConst}), b)
		refused(t, alone(api.OpSqr, 0, entire), b, api.ErrBox)
	}
}

// Calls disturb one another in nothing: one behind the other, in any order, or at one time, on the same
// lists.
func TestCallsAtOneTime(t *testing.T) {
	d := dice(19062)
	type call struct {
		goals       []api.Goal
		b           box
		rounds      int
		left, fixed box
		made        int
	}
	calls := list(24, func() call {
		vars := d.below(4)
		c := call{b: list(vars, d.part), rounds: d.below(5)}
		c.goals = list(1+d.below(3), func() api.Goal { return d.aim(d.over(vars), c.b) })
		c.left = wanted(t, c.goals[0], c.b)
		c.fixed, c.made = wantedOfFix(t, c.goals, c.b, c.rounds)
		return c
	})
	var group sync.WaitGroup
	for worker := range 8 {
		group.Add(1)
		go func() {
			defer group.Done()
			for i := range 3 * len(calls) {
				c := calls[(i*(worker+1)+worker)%len(calls)]
				leaves(t, c.goals[0], c.b, c.left...)
				fixes(t, c.goals, c.b, c.rounds, c.made, c.fixed...)
			}
		}()
	}
	group.Wait()
}
