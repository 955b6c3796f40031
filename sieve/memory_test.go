package sieve_test

import (
	"slices"
	"testing"

	"verge/api"
	"verge/sieve"
)

// P20.8, R3

// roomy tells the same list with room behind it that holds others.
func roomy[T any](l []T, others ...T) []T {
	return append(append(make([]T, 0, len(l)+len(others)), l...), others...)[:len(l)]
}

func all[T any](l []T) []T { return slices.Clone(l[:cap(l)]) }

// spoil writes over a list, and over the room behind it.
func spoil[T any](l []T, x T) {
	l = l[:cap(l)]
	for i := range l {
		l[i] = x
	}
}

func roomyBox(b box) box { return roomy(b, iv(3, signed), iv(nan, 4), empty) }

func roomyGoals(goals []api.Goal) []api.Goal {
	var out []api.Goal
	for _, g := range goals {
		p := api.Program{Vars: g.P.Vars, Consts: roomy(g.P.Consts, iv(nan, signed), iv(2, 1), iv(8, 9)), Code: roomy(g.P.Code, api.Ins{Op: 99, A: -5}, api.Ins{Op: api.OpId})}
		out = append(out, api.Goal{P: p, C: g.C})
	}
	return roomy(out, api.Goal{}, alone(api.OpSqr, 0, iv(2, 1)))
}

func allGoals(goals []api.Goal) []api.Goal {
	var out []api.Goal
	for _, g := range all(goals) {
		out = append(out, api.Goal{P: api.Program{Vars: g.P.Vars, Consts: all(g.P.Consts), Code: all(g.P.Code)}, C: g.C})
	}
	return out
}

func spoilGoals(goals []api.Goal) {
	for _, g := range goals {
		spoil(g.P.Consts, iv(-77, 77))
		spoil(g.P.Code, api.Ins{Op: api.OpPown, N: 7})
	}
	spoil(goals, api.Goal{})
}

// What is handed in stays as it was, its parts not as they are read but as they are, spare room too.
func TestHandedIn(t *testing.T) {
	d := dice(20080)
	for run := range 1500 {
		vars := d.below(4)
		b := roomyBox(list(vars, pick(&d, d.wild, d.part)))
		var goals []api.Goal
		for range 1 + d.below(3) {
			goals = append(goals, d.aim(d.over(vars), b))
		}
		l := d.limits()
		last := &goals[len(goals)-1]
		switch run % 10 {
		case 0:
			last.P.Code[len(last.P.Code)-1].Op = 22
		case 1:
			last.P.Vars++ // the box is too short then, or an operand none
		case 2:
			last.C = d.wild()
		case 3:
			l.Workers = 0
		}
		goals = roomyGoals(goals)
		kept, keptBox := allGoals(goals), all(b)
		sieve.Pave(goals, b, l)
		if walk, e := sieve.Walk(goals, b, l); e == api.OK {
			for _, x := range walk {
				spoil(x, iv(nan, 5))
			}
		}
		if !slices.EqualFunc(allGoals(goals), kept, sameGoal) {
			t.Errorf("%s became %s", shown(kept), shown(allGoals(goals)))
		}
		if !sameBox(all(b), keptBox) {
			t.Errorf("%x became %x", keptBox, all(b))
		}
	}
}

// cloned tells a paving of the same boxes, in memory of its own.
func cloned(p api.Paving) api.Paving {
	for _, l := range []*[]box{&p.Inner, &p.Edge, &p.Left} {
		var out []box
		for _, b := range *l {
			out = append(out, slices.Clone(b))
		}
		*l = out
	}
	return p
}

// Answers are new memory, spare room too: no two lists of one share any, and nothing that is handed in, and
// no other answer, is seen in them.
func TestAnswersAreNewMemory(t *testing.T) {
	for _, s := range searches() {
		handed, b := roomyGoals(s.goals), roomyBox(s.b)
		first, second := paved(t, handed, b, s.l), paved(t, handed, b, s.l)
		want := cloned(second)
		lists := boxesOf(first)
		step := 1 + len(lists)/40
		for i := 0; i < len(lists); i += step {
			kept := boxesOf(cloned(first))
			spoil(lists[i], iv(-5, 5))
			for j, x := range kept {
				if j != i && !sameBox(x, lists[j]) {
					t.Errorf("%s: with number %d the one of number %d was written over", shown(s.goals), i, j)
				}
			}
		}
		spoilOuter(t, s)
		spoilGoals(handed)
		spoil(b, iv(-7, 7))
		if !samePaving(second, want) {
			t.Errorf("%s: %s became %s", shown(s.goals), shownPaving(want), shownPaving(second))
		}
	}
}

// The lists of boxes themselves share no room.
func spoilOuter(t *testing.T, s search) {
	t.Helper()
	for i := range 3 {
		p := paved(t, s.goals, s.b, s.l)
		want := cloned(p)
		lists := []*[]box{&p.Inner, &p.Edge, &p.Left}
		spoil(*lists[i], box{iv(1, 1)})
		*lists[i] = *[]*[]box{&want.Inner, &want.Edge, &want.Left}[i]
		if !samePaving(p, want) {
			t.Errorf("%s: %s became %s", shown(s.goals), shownPaving(want), shownPaving(p))
		}
	}
}

// Where nothing is cut, or nothing is looked at, an answer is not the box; nor is it what is kept for the
// next range.
func TestAnswersAreNotTheBox(t *testing.T) {
	b := roomyBox(box{iv(1, 2), iv(3, 4)})
	kept := all(b)
	for _, g := range []api.Goal{sure(2), unsure(2)} {
		for _, l := range []api.Limits{{Width: 9, Boxes: 1, Rounds: 1, Workers: 1}, {Workers: 2}, {Boxes: 1, Rounds: 1, Workers: 3}} {
			p := paved(t, []api.Goal{g}, b, l)
			for _, x := range boxesOf(p) {
				spoil(x, one(9))
			}
			walk := walks(t, []api.Goal{g}, b, l)
			want := round(walk)
			for _, x := range walk {
				spoil(x, one(9))
			}
			alike(t, round(walk), want, "behind a range whose boxes were written over")
			asked(t, []api.Goal{g}, b, l)
		}
	}
	if !sameBox(all(b), kept) {
		t.Errorf("%v became %v", kept, all(b))
	}
}

// Two halves of one box share no memory.
func TestHalvesAreNewMemory(t *testing.T) {
	l := api.Limits{Boxes: 1, Rounds: 1, Workers: 1}
	p := paved(t, []api.Goal{unsure(3)}, box{iv(0, 1), iv(0, 4), iv(0, 1)}, l)
	if len(p.Left) != 2 {
		t.Fatal(p)
	}
	for i := range 2 {
		kept := slices.Clone(p.Left[1-i])
		spoil(p.Left[i], one(5))
		if !sameBox(p.Left[1-i], kept) {
			t.Errorf("%v became %v", kept, p.Left[1-i])
		}
	}
}

// nil and an empty list are one.
func TestNothing(t *testing.T) {
	for _, consts := range []box{nil, {}} {
		answers(t, []api.Goal{goal(1, consts, iv(1, 4), api.Ins{Op: api.OpSqr})}, box{iv(0, 9)}, fine(), api.Paving{Inner: []box{{iv(1, 2)}}, Boxes: 1, Rounds: 1})
	}
	for _, b := range []box{nil, {}} {
		asked(t, []api.Goal{sure(0)}, b, fine())
		refused(t, []api.Goal{sure(1)}, b, fine(), api.ErrBox)
	}
}
